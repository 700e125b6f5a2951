/- Comparisons that are total orders: of numbers, of texts, of lists, one after the other.; Contracts of the library's cmp.Compare at texts and cmp.Or at numbers; of the program's comparisons of places and readings.; Contracts of the program's compareReadings and comparePlaces.; Contract of the library's slices.CompareFunc at readings with the program's compareReadings. -/
import Derived.WalkKit
import Derived.Test.YtneglkfcelpdgaaGreatDoorMzb
namespace Go.Proofs.YtneglkfcelpdgaaGreatDoor.Cmpr

/-- -1, 0 or 1; 0 for equal ones only; the other way round with the other sign; transitive. -/
structure Tot {α : Type} (f : α → α → Int) : Prop where
  rng : ∀ a b, f a b = -1 ∨ f a b = 0 ∨ f a b = 1
  zero : ∀ a b, f a b = 0 ↔ a = b
  anti : ∀ a b, f b a = - f a b
  trans : ∀ a b c, f a b = -1 → f b c = -1 → f a c = -1
theorem Tot.le {α : Type} {f : α → α → Int} (h : Tot f) {a b c : α} (h1 : f a b ≤ 0) (h2 : f b c ≤ 0) : f a c ≤ 0 := by
  rcases h.rng a b with e | e | e
  · rcases h.rng b c with d | d | d
    · rw [h.trans a b c e d]; omega
    · rw [← (h.zero b c).1 d, e]; omega
    · omega
  · rw [(h.zero a b).1 e]; exact h2
  · omega
/-- Numbers. -/
def num (a b : Int) : Int := if a < b then -1 else if a > b then 1 else 0
theorem num_tot : Tot num := by
  refine ⟨fun a b => ?_, fun a b => ?_, fun a b => ?_, fun a b c => ?_⟩ <;> unfold num <;> repeat' split <;> omega
/-- One after the other. -/
def or (x y : Int) : Int := if x ≠ 0 then x else y
def lex {α β : Type} (f : α → α → Int) (g : β → β → Int) (a b : α × β) : Int := or (f a.1 b.1) (g a.2 b.2)
theorem lex_tot {α β : Type} {f : α → α → Int} {g : β → β → Int} (hf : Tot f) (hg : Tot g) : Tot (lex f g) := by
  refine ⟨fun a b => ?_, fun a b => ?_, fun a b => ?_, fun a b c h1 h2 => ?_⟩
  · unfold lex or; split
    · exact hf.rng _ _
    · exact hg.rng _ _
  · unfold lex or; split
    · rename_i h
      constructor
      · intro e; exact absurd e h
      · intro e; subst e; exact absurd ((hf.zero _ _).2 rfl) h
    · rename_i h
      have h : f a.1 b.1 = 0 := by omega
      have e := (hf.zero _ _).1 h
      constructor
      · intro k; exact Prod.ext e ((hg.zero _ _).1 k)
      · intro k; rw [k]; exact (hg.zero _ _).2 rfl
  · unfold lex or
    rw [hf.anti a.1 b.1, hg.anti a.2 b.2]
    split <;> split <;> omega
  · unfold lex or at *
    by_cases e1 : f a.1 b.1 = 0
    · rw [(hf.zero _ _).1 e1]
      by_cases e2 : f b.1 c.1 = 0
      · rw [if_neg (by omega)] at h1 h2 ⊢
        · exact hg.trans _ _ _ h1 h2
      · rw [if_pos e2] at h2 ⊢; exact h2
    · rw [if_pos e1] at h1
      by_cases e2 : f b.1 c.1 = 0
      · rw [← (hf.zero _ _).1 e2, if_pos e1]; exact h1
      · rw [if_pos e2] at h2
        have := hf.trans _ _ _ h1 h2
        rw [this]; rfl
/-- Lists like words. -/
def lst {α : Type} (f : α → α → Int) : List α → List α → Int
  | [], [] => 0
  | [], _ :: _ => -1
  | _ :: _, [] => 1
  | a :: x, b :: y => or (f a b) (lst f x y)
theorem lst_tot {α : Type} {f : α → α → Int} (hf : Tot f) : Tot (lst f) := by
  have key : ∀ a b : List α, (lst f a b = -1 ∨ lst f a b = 0 ∨ lst f a b = 1) ∧ (lst f a b = 0 ↔ a = b) ∧ lst f b a = - lst f a b := by
    intro a
    induction a with
    | nil => intro b; cases b <;> simp [lst]
    | cons x a ih =>
      intro b
      cases b with
      | nil => simp [lst]
      | cons y b =>
        obtain ⟨i1, i2, i3⟩ := ih b
        have hr := hf.rng x y
        have hz := hf.zero x y
        have ha := hf.anti x y
        simp only [lst, or, ha, i3, List.cons.injEq]
        refine ⟨?_, ?_, ?_⟩
        · split
          · exact hr
          · exact i1
        · split
          · rename_i h; exact ⟨fun e => absurd e h, fun e => absurd (hz.2 e.1) h⟩
          · rename_i h
            have h : f x y = 0 := by omega
            exact ⟨fun e => ⟨hz.1 h, i2.1 e⟩, fun e => i2.2 e.2⟩
        · split <;> split <;> omega
  refine ⟨fun a b => (key a b).1, fun a b => (key a b).2.1, fun a b => (key a b).2.2, fun a b c => ?_⟩
  induction a generalizing b c with
  | nil =>
    cases b with
    | nil => intro h; simp [lst] at h
    | cons y b => cases c with
      | nil => intro _ h; simp [lst] at h
      | cons z c => intro _ _; rfl
  | cons x a ih =>
    cases b with
    | nil => intro h; simp [lst] at h
    | cons y b =>
      cases c with
      | nil => intro _ h; simp [lst] at h
      | cons z c =>
        intro h1 h2
        simp only [lst, or] at *
        by_cases e1 : f x y = 0
        · rw [(hf.zero _ _).1 e1]
          by_cases e2 : f y z = 0
          · rw [if_neg (by omega)] at h1 h2 ⊢
            exact ih _ _ h1 h2
          · rw [if_pos e2] at h2 ⊢; exact h2
        · rw [if_pos e1] at h1
          by_cases e2 : f y z = 0
          · rw [← (hf.zero _ _).1 e2, if_pos e1]; exact h1
          · rw [if_pos e2] at h2
            have := hf.trans _ _ _ h1 h2
            rw [this]; rfl
/-- Bytes, texts. -/
def u8 (a b : UInt8) : Int := num a.toNat b.toNat
theorem u8_tot : Tot u8 := by
  refine ⟨fun a b => num_tot.rng _ _, fun a b => ?_, fun a b => num_tot.anti _ _, fun a b c => num_tot.trans _ _ _⟩
  rw [u8, num_tot.zero]
  exact ⟨fun h => UInt8.toNat_inj.1 (by omega), fun h => by rw [h]⟩
def txt (a b : List UInt8) : Int := lst u8 a b
theorem txt_tot : Tot txt := lst_tot u8_tot
theorem txt_less : ∀ a b : List UInt8, Op.bytesLess a b = decide (txt a b = -1)
  | [], [] => rfl
  | [], _ :: _ => rfl
  | _ :: _, [] => rfl
  | a :: x, b :: y => by
    have ih := txt_less x y
    unfold txt at *
    rw [Op.bytesLess, ih]
    simp only [lst, or, u8, num]
    by_cases h : a < b
    · have h' : (a.toNat : Int) < b.toNat := by have := UInt8.lt_iff_toNat_lt.1 h; omega
      simp [h, h']
    · have h' : ¬ (a.toNat : Int) < b.toNat := by have := mt UInt8.lt_iff_toNat_lt.2 h; omega
      by_cases e : a = b
      · subst e; simp
      · have e' : (a.toNat : Int) > b.toNat := by
          have : a.toNat ≠ b.toNat := fun k => e (UInt8.toNat_inj.1 k)
          omega
        simp [h, h', e, e']
end Go.Proofs.YtneglkfcelpdgaaGreatDoor.Cmpr
namespace Go.Proofs.YtneglkfcelpdgaaGreatDoor
open Go.RowKit

theorem isNaN_any (s : ByteArray) (w : World) : Calls Tryz.prog 97 #[.string s] w fun e w' => e = .returned (.bool false) ∧ w' = w := by
  have q : (s.toList == s.toList) = true := beq_self_eq_true _
  go_enter Tryz.func97, Tryz.ntmps97
  go_wp2
  go_ret
  exact ⟨rfl, rfl⟩
/-- The comparison of two texts. -/
def ctx (a b : ByteArray) : Int := Cmpr.txt a.data.toList b.data.toList
theorem ctx_tot : Cmpr.Tot ctx := by
  refine ⟨fun a b => Cmpr.txt_tot.rng _ _, fun a b => ?_, fun a b => Cmpr.txt_tot.anti _ _, fun a b c => Cmpr.txt_tot.trans _ _ _⟩
  unfold ctx
  rw [Cmpr.txt_tot.zero]
  exact ⟨fun h => by rw [← S_of a, h, S_of], fun h => by rw [h]⟩
theorem less_is (a b : ByteArray) : Op.bytesLess a.toList b.toList = decide (ctx a b = -1) := by
  rw [ByteArray.toList_eq, ByteArray.toList_eq, Cmpr.txt_less]; rfl
set_option maxHeartbeats 400000 in
theorem cmpStr_any (a b : ByteArray) (w : World) : Calls Tryz.prog 56 #[.string a, .string b] w fun e w' => e = .returned (.int .i64 (ctx a b)) ∧ w' = w := by
  rcases ctx_tot.rng a b with h | h | h
  · have l1 : Op.bytesLess a.toList b.toList = true := (less_is a b).trans (decide_eq_true h)
    have H := Lib.hid h; clear h
    go_enter Tryz.func56, Tryz.ntmps56
    go_wp2_with (go_at_call 97; refine (isNaN_any _ _).mono ?_; rintro e w1 ⟨rfl, rfl⟩)
    go_ret
    exact ⟨ret_i64 (by rw [H.out]), rfl⟩
  · have l1 : Op.bytesLess a.toList b.toList = false := (less_is a b).trans (decide_eq_false (by omega))
    have l2 : (a.toList == b.toList) = true := toList_same ((ctx_tot.zero a b).1 h)
    have H := Lib.hid h; clear h
    go_enter Tryz.func56, Tryz.ntmps56
    go_wp2_with (go_at_call 97; refine (isNaN_any _ _).mono ?_; rintro e w1 ⟨rfl, rfl⟩)
    go_ret
    exact ⟨ret_i64 (by rw [H.out]), rfl⟩
  · have l1 : Op.bytesLess a.toList b.toList = false := (less_is a b).trans (decide_eq_false (by omega))
    have l2 : (a.toList == b.toList) = false := toList_ne fun e => by have := (ctx_tot.zero a b).2 e; omega
    have H := Lib.hid h; clear h
    go_enter Tryz.func56, Tryz.ntmps56
    go_wp2_with (go_at_call 97; refine (isNaN_any _ _).mono ?_; rintro e w1 ⟨rfl, rfl⟩)
    go_ret
    exact ⟨ret_i64 (by rw [H.out]), rfl⟩
/-- The first number of a list that is not 0. -/
def orL : List Int → Int
  | [] => 0
  | x :: r => Cmpr.or x (orL r)
theorem orL_zero : ∀ (L : List Int) (k : Nat), (∀ j (h : j < L.length), j < k → L[j] = 0) → orL L = orL (L.drop k)
  | [], k, _ => by simp
  | x :: r, 0, _ => rfl
  | x :: r, k + 1, h => by
    have h0 : x = 0 := h 0 (by simp) (by omega)
    rw [List.drop_succ_cons, ← orL_zero r k fun j hj hk => (h (j + 1) (by simp; omega) (by omega) : (x :: r)[j + 1]'(by simp; omega) = 0)]
    subst h0; simp [orL, Cmpr.or]
set_option maxHeartbeats 400000 in
theorem or_any (g : Nat) (L : List Int) (w : World) (hc : ∀ i (h : i < L.length), w.cell? ⟨g, i, none⟩ = some (.int .i64 L[i])) (hl : L.length ≤ 10) :
    Calls Tryz.prog 54 #[.slice (some ⟨g, 0, none⟩) L.length L.length] w fun e w' => e = .returned (.int .i64 (orL L)) ∧ w' = w := by
  have HC := Lib.hid hc; clear hc
  go_enter Tryz.func54, Tryz.ntmps54
  go_wp2
  go_loop [5, 8] (fun u i => ∃ k : Nat, k ≤ L.length ∧ i = .int .i64 k ∧ ∀ j (h : j < L.length), j < k → L[j] = 0) (fun _ i => L.length - (intOf i).toNat)
  case atStart => exact ⟨0, Nat.zero_le _, rfl, fun j _ h => absurd h (Nat.not_lt_zero _)⟩
  case round =>
    obtain ⟨k, hk, rfl, hz⟩ := hrel
    have HZ := Lib.hid hz; clear hz
    by_cases hlt : k < L.length
    · have c0 := HC.out k hlt
      have HD := Lib.hid (show L.drop k = L[k] :: L.drop (k + 1) from List.drop_eq_getElem_cons hlt)
      have HK := Lib.hid (show L[k] = 0 → ∀ j (h : j < L.length), j < k + 1 → L[j] = 0 from fun h0 j hj hjk => by
        by_cases e : j = k
        · subst e; exact h0
        · exact HZ.out j hj (by omega))
      have HO := Lib.hid (orL_zero L k HZ.out)
      generalize hx : L[k] = x at *
      by_cases h0 : x = 0
      · have HX := Lib.hid hx; clear hx
        have HY := Lib.hid (HK.out h0)
        subst h0
        go_wp2
        go_round
        case rel => exact ⟨k + 1, by omega, by go_num, HY.out⟩
        case measure => simp [intOf]; omega
      · have HX := Lib.hid hx; clear hx
        have q : (x != 0) = true := by rw [bne_iff_ne]; exact h0
        have HR := Lib.hid (show orL L = x by rw [HO.out, HD.out]; unfold orL Cmpr.or; rw [if_pos h0])
        clear h0
        go_wp2
        go_ret
        exact ⟨ret_i64 (by rw [HR.out]), rfl⟩
    · have HR := Lib.hid (show orL L = 0 by rw [orL_zero L k HZ.out, List.drop_eq_nil_of_le (by omega)]; rfl)
      go_wp2
      go_ret
      exact ⟨ret_i64 (by rw [HR.out]), rfl⟩
theorem or_two (g : Nat) (x y : Int) (w : World) (h : Row w g 3 #[.int .i64 x, .int .i64 y]) :
    Calls Tryz.prog 54 #[.slice (some ⟨g, 0, none⟩) 2 2] w fun e w' => e = .returned (.int .i64 (orL [x, y])) ∧ w' = w :=
  or_any g [x, y] w (fun i hi => by
    rcases (by simp at hi; omega : i = 0 ∨ i = 1) with rfl | rfl
    · exact (h.cell 0).trans rfl
    · exact (h.cell 1).trans rfl) (by simp)
theorem or_four (g : Nat) (x y z u : Int) (w : World) (h : Row w g 3 #[.int .i64 x, .int .i64 y, .int .i64 z, .int .i64 u]) :
    Calls Tryz.prog 54 #[.slice (some ⟨g, 0, none⟩) 4 4] w fun e w' => e = .returned (.int .i64 (orL [x, y, z, u])) ∧ w' = w :=
  or_any g [x, y, z, u] w (fun i hi => by
    rcases (by simp at hi; omega : i = 0 ∨ i = 1 ∨ i = 2 ∨ i = 3) with rfl | rfl | rfl | rfl
    · exact (h.cell 0).trans rfl
    · exact (h.cell 1).trans rfl
    · exact (h.cell 2).trans rfl
    · exact (h.cell 3).trans rfl) (by simp)
theorem or_five (g : Nat) (x y z u v : Int) (w : World) (h : Row w g 3 #[.int .i64 x, .int .i64 y, .int .i64 z, .int .i64 u, .int .i64 v]) :
    Calls Tryz.prog 54 #[.slice (some ⟨g, 0, none⟩) 5 5] w fun e w' => e = .returned (.int .i64 (orL [x, y, z, u, v])) ∧ w' = w :=
  or_any g [x, y, z, u, v] w (fun i hi => by
    rcases (by simp at hi; omega : i = 0 ∨ i = 1 ∨ i = 2 ∨ i = 3 ∨ i = 4) with rfl | rfl | rfl | rfl | rfl
    · exact (h.cell 0).trans rfl
    · exact (h.cell 1).trans rfl
    · exact (h.cell 2).trans rfl
    · exact (h.cell 3).trans rfl
    · exact (h.cell 4).trans rfl) (by simp)
theorem cmpInt_is (x y : Int) (w : World) : Calls Tryz.prog 55 #[.int .i64 x, .int .i64 y] w fun e w' => e = .returned (.int .i64 (Cmpr.num x y)) ∧ w' = w := Tryz.cmp_Compare_int x y w
end Go.Proofs.YtneglkfcelpdgaaGreatDoor
namespace Go.Proofs.YtneglkfcelpdgaaGreatDoor
open Go.RowKit

set_option maxHeartbeats 2000000 in
theorem cmpRd_any (a b c d : Int) (w : World) :
    Calls Tryz.prog 59 #[.agg #[.int .i64 a, .int .i64 b], .agg #[.int .i64 c, .int .i64 d]] w fun e w' => e = .returned (.int .i64 (orL [Cmpr.num a c, Cmpr.num b d])) ∧ Below w.heap.size w w' := by
  go_enter Tryz.func59, Tryz.ntmps59
  go_upto_region 1 with fail
  refine forget (fun Y => Below w.heap.size w Y ∧ Row Y w.heap.size 63 #[.int .i64 a, .int .i64 b] ∧ Row Y (w.heap.size + 1) 63 #[.int .i64 c, .int .i64 d]) ⟨((Below.refl _ _).alloc (Nat.le_refl _) _).alloc (by simp) _, (Row.new _ _ _).alloc _, Row.newAt (by simp)⟩ ?_
  rintro Y ⟨bY, r0, r1⟩
  obtain ⟨c0, c1⟩ := row2 r0
  obtain ⟨d0, d1⟩ := row2 r1
  have h0 := r0.lt
  have h1 := r1.lt
  have B := Lib.hid bY
  clear r0 r1 bY
  go_region_held3 (fun w' => (w'.cell? ⟨w.heap.size, 0, none⟩ = some (.int .i64 a) ∧ w'.cell? ⟨w.heap.size, 1, none⟩ = some (.int .i64 b)) ∧ w'.cell? ⟨w.heap.size + 1, 0, none⟩ = some (.int .i64 c) ∧ w'.cell? ⟨w.heap.size + 1, 1, none⟩ = some (.int .i64 d))
    (go_keep)
    (first | (go_at_call 55; refine (cmpInt_is _ _ _).mono ?_; rintro e w1 ⟨rfl, rfl⟩) | (go_at_call 54; refine (or_two _ _ _ _ (Row.new _ _ _).drew).mono ?_; rintro e w1 ⟨rfl, rfl⟩))
  go_wp2_with fail
  go_ret
  exact ⟨rfl, (B.out.alloc B.out.size _).drew⟩
set_option maxHeartbeats 4000000 in
theorem cmpPl_any (a b c d a' b' c' d' : Int) (w : World) :
    Calls Tryz.prog 57 #[.agg #[.int .i64 a, .int .i64 b, .int .i64 c, .int .i64 d], .agg #[.int .i64 a', .int .i64 b', .int .i64 c', .int .i64 d']] w fun e w' => e = .returned (.int .i64 (orL [Cmpr.num a a', Cmpr.num b b', Cmpr.num c c', Cmpr.num d d'])) ∧ Below w.heap.size w w' := by
  go_enter Tryz.func57, Tryz.ntmps57
  go_upto_region 1 with fail
  refine forget (fun Y => Below w.heap.size w Y ∧ Row Y w.heap.size 23 #[.int .i64 a, .int .i64 b, .int .i64 c, .int .i64 d] ∧ Row Y (w.heap.size + 1) 23 #[.int .i64 a', .int .i64 b', .int .i64 c', .int .i64 d']) ⟨((Below.refl _ _).alloc (Nat.le_refl _) _).alloc (by simp) _, (Row.new _ _ _).alloc _, Row.newAt (by simp)⟩ ?_
  rintro Y ⟨bY, r0, r1⟩
  obtain ⟨c0, c1, c2, c3⟩ := row4 r0
  obtain ⟨d0, d1, d2, d3⟩ := row4 r1
  have h0 := r0.lt
  have h1 := r1.lt
  have B := Lib.hid bY
  clear r0 r1 bY
  go_region_held3 (fun w' => (w'.cell? ⟨w.heap.size, 0, none⟩ = some (.int .i64 a) ∧ w'.cell? ⟨w.heap.size, 1, none⟩ = some (.int .i64 b) ∧ w'.cell? ⟨w.heap.size, 2, none⟩ = some (.int .i64 c) ∧ w'.cell? ⟨w.heap.size, 3, none⟩ = some (.int .i64 d)) ∧ w'.cell? ⟨w.heap.size + 1, 0, none⟩ = some (.int .i64 a') ∧ w'.cell? ⟨w.heap.size + 1, 1, none⟩ = some (.int .i64 b') ∧ w'.cell? ⟨w.heap.size + 1, 2, none⟩ = some (.int .i64 c') ∧ w'.cell? ⟨w.heap.size + 1, 3, none⟩ = some (.int .i64 d'))
    (go_keep)
    (first | (go_at_call 55; refine (cmpInt_is _ _ _).mono ?_; rintro e w1 ⟨rfl, rfl⟩) | (go_at_call 54; refine (or_four _ _ _ _ _ _ (Row.new _ _ _).drew).mono ?_; rintro e w1 ⟨rfl, rfl⟩))
  go_wp2_with fail
  go_ret
  exact ⟨rfl, (B.out.alloc B.out.size _).drew⟩
end Go.Proofs.YtneglkfcelpdgaaGreatDoor
namespace Go.Proofs.YtneglkfcelpdgaaGreatDoor
open Go.RowKit

/-- The comparison of two readings, of two lists of readings. -/
def cR (x y : El.Elt.R) : Int := orL [Cmpr.num x.1 y.1, Cmpr.num x.2 y.2]
theorem or_zero (x : Int) : Cmpr.or x 0 = x := by
  unfold Cmpr.or; split
  · rfl
  · omega
theorem cR_tot : Cmpr.Tot cR := by
  have h := Cmpr.lex_tot Cmpr.num_tot Cmpr.num_tot
  have e : cR = Cmpr.lex Cmpr.num Cmpr.num := by
    funext x y; unfold cR Cmpr.lex; simp only [orL, or_zero]
  rw [e]; exact h
def cRs (L M : List El.Elt.R) : Int := Cmpr.lst cR L M
theorem cRs_tot : Cmpr.Tot cRs := Cmpr.lst_tot cR_tot
theorem cRs_drop (L M : List El.Elt.R) (k : Nat) (h1 : k ≤ L.length) (h2 : k ≤ M.length) (h : L.take k = M.take k) : cRs L M = cRs (L.drop k) (M.drop k) := by
  induction k generalizing L M with
  | zero => rfl
  | succ k ih =>
    cases L with
    | nil => simp at h1
    | cons x L =>
      cases M with
      | nil => simp at h2
      | cons y M =>
        simp only [List.take_succ_cons, List.cons.injEq] at h
        obtain ⟨rfl, h⟩ := h
        rw [List.drop_succ_cons, List.drop_succ_cons, ← ih L M (by simpa using h1) (by simpa using h2) h]
        unfold cRs
        rw [Cmpr.lst, (cR_tot.zero x x).2 rfl]
        rfl
set_option maxHeartbeats 4000000 in
theorem cmpRs_any (va vb : Value) (L M : List El.Elt.R) (w : World) (ha : El.RdIn w va L) (hb : El.RdIn w vb M) :
    Calls Tryz.prog 58 #[va, vb, .func (.func 59) #[] #[]] w fun e w' => e = .returned (.int .i64 (cRs L M)) ∧ Below w.heap.size w w' := by
  obtain ⟨A, cA, rfl, lA, mA, hA⟩ := ha
  obtain ⟨B, cB, rfl, lB, mB, hB⟩ := hb
  have HA := Lib.hid hA; clear hA
  have HB := Lib.hid hB; clear hB
  go_enter Tryz.func58, Tryz.ntmps58
  go_wp2_with fail
  go_loopw [7, 8, 9, 10, 13] (fun _ _ _ _ t wr => ∃ k : Nat, k ≤ L.length ∧ k ≤ M.length ∧ t = .int .i64 k ∧ L.take k = M.take k ∧ Below w.heap.size w wr) (fun _ _ _ _ t _ => L.length - (intOf t).toNat)
  case atStart => exact ⟨0, by omega, by omega, rfl, rfl, Below.refl _ _⟩
  case round =>
    obtain ⟨k, hk, hk2, rfl, ht, bw⟩ := hrel
    have HT := Lib.hid ht; clear ht
    have BW := Lib.hid bw; clear bw
    by_cases hlt : k < L.length
    · obtain ⟨g, off, rfl, hg, c0, c1⟩ := HA.out k hlt
      have c0 := (BW.out.cell (p := ⟨g, off + k * 2, none⟩) hg).trans c0
      have c1 := (BW.out.cell (p := ⟨g, off + k * 2 + 1, none⟩) hg).trans c1
      have k0 : (0 : Int) ≤ (k : Int) := by omega
      have k1 : (k : Int) < (L.length : Int) := by omega
      have x1 : IntKind.i64.wrap (k : Int) = (k : Int) := IntWalk.i64_in _ (by omega)
      by_cases hltM : k < M.length
      · obtain ⟨g', off', rfl, hg', d0, d1⟩ := HB.out k hltM
        have d0 := (BW.out.cell (p := ⟨g', off' + k * 2, none⟩) hg').trans d0
        have d1 := (BW.out.cell (p := ⟨g', off' + k * 2 + 1, none⟩) hg').trans d1
        have k2 : (k : Int) < (M.length : Int) := by omega
        have hs : Hid (L[k] = M[k] → L.take (k + 1) = M.take (k + 1)) := Lib.hid (fun e => by rw [List.take_succ_eq_append_getElem hlt, List.take_succ_eq_append_getElem hltM, HT.out, e])
        have hn : Hid (cR L[k] M[k] ≠ 0 → cRs L M = cR L[k] M[k]) := Lib.hid (fun e => by
          rw [cRs_drop L M k (by omega) (by omega) HT.out, List.drop_eq_getElem_cons hlt, List.drop_eq_getElem_cons hltM]
          unfold cRs; rw [Cmpr.lst, Cmpr.or, if_pos e])
        generalize L[k] = x at *
        generalize M[k] = y at *
        obtain ⟨x0, x2⟩ := x
        obtain ⟨y0, y2⟩ := y
        simp only at c0 c1 d0 d1
        have hgw : g < wr.heap.size := Nat.lt_of_lt_of_le hg BW.out.size
        have hgw' : g' < wr.heap.size := Nat.lt_of_lt_of_le hg' BW.out.size
        have HC := Lib.hid (fun W => cmpRd_any x0 x2 y0 y2 W)
        have HZ := Lib.hid (cR_tot.zero (x0, x2) (y0, y2))
        unfold cR at hn HZ
        simp only at hn HZ
        generalize orL [Cmpr.num x0 y0, Cmpr.num x2 y2] = cc at *
        by_cases h0 : cc = 0
        · have HE := Lib.hid (hs.out (HZ.out.1 h0))
          subst h0
          go_wp2_with fail
          refine (HC.out _).mono ?_
          rintro e w2 ⟨rfl, g2⟩
          go_wp2_with fail
          go_roundw
          case rel => exact ⟨k + 1, by omega, by omega, by go_num, HE.out, ((BW.out.alloc BW.out.size _).alloc (by have := BW.out.size; simp; omega) _).trans (g2.mono (by have := BW.out.size; simp; omega))⟩
          case measure => simp [intOf]; omega
        · have HR := Lib.hid (hn.out h0)
          have q : (cc != 0) = true := by rw [bne_iff_ne]; exact h0
          clear h0
          go_wp2_with fail
          refine (HC.out _).mono ?_
          rintro e w2 ⟨rfl, g2⟩
          go_wp2_with fail
          go_ret
          exact ⟨ret_i64 (by rw [HR.out]), ((BW.out.alloc BW.out.size _).alloc (by have := BW.out.size; simp; omega) _).trans (g2.mono (by have := BW.out.size; simp; omega))⟩
      · have HR := Lib.hid (show cRs L M = 1 by
          rw [cRs_drop L M k (by omega) (by omega) HT.out, List.drop_eq_getElem_cons hlt, List.drop_eq_nil_of_le (by omega : M.length ≤ k)]
          rfl)
        have k2 : (M.length : Int) ≤ (k : Int) := by omega
        generalize L[k] = x at *
        obtain ⟨x0, x2⟩ := x
        simp only at c0 c1
        go_wp2_with fail
        go_ret
        exact ⟨ret_i64 (by rw [HR.out]), BW.out.alloc BW.out.size _⟩
    · have hke : k = L.length := by omega
      have k1 : ¬ ((k : Int) < (L.length : Int)) := by omega
      by_cases hltM : L.length < M.length
      · have HR := Lib.hid (show cRs L M = -1 by
          rw [cRs_drop L M k (by omega) (by omega) HT.out, List.drop_eq_nil_of_le (by omega : L.length ≤ k), List.drop_eq_getElem_cons (by omega : k < M.length)]
          rfl)
        have k3 : (L.length : Int) < (M.length : Int) := by omega
        clear hke
        go_wp2_with fail
        go_ret
        exact ⟨ret_i64 (by rw [HR.out]), BW.out⟩
      · have HR := Lib.hid (show cRs L M = 0 by
          rw [cRs_drop L M k (by omega) (by omega) HT.out, List.drop_eq_nil_of_le (by omega : L.length ≤ k), List.drop_eq_nil_of_le (by omega : M.length ≤ k)]
          rfl)
        have k3 : ¬ (L.length : Int) < (M.length : Int) := by omega
        clear hke
        go_wp2_with fail
        go_ret
        exact ⟨ret_i64 (by rw [HR.out]), BW.out⟩
end Go.Proofs.YtneglkfcelpdgaaGreatDoor
