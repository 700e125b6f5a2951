/- Comparisons that are total orders: of numbers, of texts, of lists, one after the other. Contracts of the library's cmp.Compare at texts and cmp.Or at numbers; of the program's comparisons of places and readings. Contracts of the program's compareReadings and comparePlaces. Contract of the library's slices.CompareFunc at readings with the program's compareReadings. Contract of the program's Compare of reports. -/
import Derived.WalkKit
import Derived.Test.YtfnlgfacadmjpaaGreatDoorCParse
namespace Go.Proofs.YtfnlgfacadmjpaaGreatDoor.Cmpr

/-- -1, 0 or 1; 0 for equal ones only; the other way round with the other sign; transitive. -/
structure Tot {α : Type} (f : α → α → Int) : Prop where
  rng : ∀ a b, f a b = -1 ∨ f a b = 0 ∨ f a b = 1
  zero : ∀ a b, f a b = 0 ↔ a = b
  anti : ∀ a b, f b a = - f a b
  trans : ∀ a b c, f a b = -1 → f b c = -1 → f a c = -1
theorem Tot.le {α : Type} {f : α → α → Int} (h : Tot f) {a b c : α} (h1 : f a b ≤ 0) (h2 : f b c ≤ 0) : f a c ≤ 0 := by
  rcases h.rng a b with e | e | e
  · rcases h.rng b c with d | d | d
    · rw [h.trans a b c e d]; omega
    · rw [← (h.zero b c).1 d, e]; omega
    · omega
  · rw [(h.zero a b).1 e]; exact h2
  · omega
/-- Numbers. -/
def num (a b : Int) : Int := if a < b then -1 else if a > b then 1 else 0
theorem num_tot : Tot num := by
  refine ⟨fun a b => ?_, fun a b => ?_, fun a b => ?_, fun a b c => ?_⟩ <;> unfold num <;> repeat' split <;> omega
/-- One after the other. -/
def or (x y : Int) : Int := if x ≠ 0 then x else y
def lex {α β : Type} (f : α → α → Int) (g : β → β → Int) (a b : α × β) : Int := or (f a.1 b.1) (g a.2 b.2)
theorem lex_tot {α β : Type} {f : α → α → Int} {g : β → β → Int} (hf : Tot f) (hg : Tot g) : Tot (lex f g) := by
  refine ⟨fun a b => ?_, fun a b => ?_, fun a b => ?_, fun a b c h1 h2 => ?_⟩
  · unfold lex or; split
    · exact hf.rng _ _
    · exact hg.rng _ _
  · unfold lex or; split
    · rename_i h
      constructor
      · intro e; exact absurd e h
      · intro e; subst e; exact absurd ((hf.zero _ _).2 rfl) h
    · rename_i h
      have h : f a.1 b.1 = 0 := by omega
      have e := (hf.zero _ _).1 h
      constructor
      · intro k; exact Prod.ext e ((hg.zero _ _).1 k)
      · intro k; rw [k]; exact (hg.zero _ _).2 rfl
  · unfold lex or
    rw [hf.anti a.1 b.1, hg.anti a.2 b.2]
    split <;> split <;> omega
  · unfold lex or at *
    by_cases e1 : f a.1 b.1 = 0
    · rw [(hf.zero _ _).1 e1]
      by_cases e2 : f b.1 c.1 = 0
      · rw [if_neg (by omega)] at h1 h2 ⊢
        · exact hg.trans _ _ _ h1 h2
      · rw [if_pos e2] at h2 ⊢; exact h2
    · rw [if_pos e1] at h1
      by_cases e2 : f b.1 c.1 = 0
      · rw [← (hf.zero _ _).1 e2, if_pos e1]; exact h1
      · rw [if_pos e2] at h2
        have := hf.trans _ _ _ h1 h2
        rw [this]; rfl
/-- Lists like words. -/
def lst {α : Type} (f : α → α → Int) : List α → List α → Int
  | [], [] => 0
  | [], _ :: _ => -1
  | _ :: _, [] => 1
  | a :: x, b :: y => or (f a b) (lst f x y)
theorem lst_tot {α : Type} {f : α → α → Int} (hf : Tot f) : Tot (lst f) := by
  have key : ∀ a b : List α, (lst f a b = -1 ∨ lst f a b = 0 ∨ lst f a b = 1) ∧ (lst f a b = 0 ↔ a = b) ∧ lst f b a = - lst f a b := by
    intro a
    induction a with
    | nil => intro b; cases b <;> simp [lst]
    | cons x a ih =>
      intro b
      cases b with
      | nil => simp [lst]
      | cons y b =>
        obtain ⟨i1, i2, i3⟩ := ih b
        have hr := hf.rng x y
        have hz := hf.zero x y
        have ha := hf.anti x y
        simp only [lst, or, ha, i3, List.cons.injEq]
        refine ⟨?_, ?_, ?_⟩
        · split
          · exact hr
          · exact i1
        · split
          · rename_i h; exact ⟨fun e => absurd e h, fun e => absurd (hz.2 e.1) h⟩
          · rename_i h
            have h : f x y = 0 := by omega
            exact ⟨fun e => ⟨hz.1 h, i2.1 e⟩, fun e => i2.2 e.2⟩
        · split <;> split <;> omega
  refine ⟨fun a b => (key a b).1, fun a b => (key a b).2.1, fun a b => (key a b).2.2, fun a b c => ?_⟩
  induction a generalizing b c with
  | nil =>
    cases b with
    | nil => intro h; simp [lst] at h
    | cons y b => cases c with
      | nil => intro _ h; simp [lst] at h
      | cons z c => intro _ _; rfl
  | cons x a ih =>
    cases b with
    | nil => intro h; simp [lst] at h
    | cons y b =>
      cases c with
      | nil => intro _ h; simp [lst] at h
      | cons z c =>
        intro h1 h2
        simp only [lst, or] at *
        by_cases e1 : f x y = 0
        · rw [(hf.zero _ _).1 e1]
          by_cases e2 : f y z = 0
          · rw [if_neg (by omega)] at h1 h2 ⊢
            exact ih _ _ h1 h2
          · rw [if_pos e2] at h2 ⊢; exact h2
        · rw [if_pos e1] at h1
          by_cases e2 : f y z = 0
          · rw [← (hf.zero _ _).1 e2, if_pos e1]; exact h1
          · rw [if_pos e2] at h2
            have := hf.trans _ _ _ h1 h2
            rw [this]; rfl
/-- Bytes, texts. -/
def u8 (a b : UInt8) : Int := num a.toNat b.toNat
theorem u8_tot : Tot u8 := by
  refine ⟨fun a b => num_tot.rng _ _, fun a b => ?_, fun a b => num_tot.anti _ _, fun a b c => num_tot.trans _ _ _⟩
  rw [u8, num_tot.zero]
  exact ⟨fun h => UInt8.toNat_inj.1 (by omega), fun h => by rw [h]⟩
def txt (a b : List UInt8) : Int := lst u8 a b
theorem txt_tot : Tot txt := lst_tot u8_tot
theorem txt_less : ∀ a b : List UInt8, Op.bytesLess a b = decide (txt a b = -1)
  | [], [] => rfl
  | [], _ :: _ => rfl
  | _ :: _, [] => rfl
  | a :: x, b :: y => by
    have ih := txt_less x y
    unfold txt at *
    rw [Op.bytesLess, ih]
    simp only [lst, or, u8, num]
    by_cases h : a < b
    · have h' : (a.toNat : Int) < b.toNat := by have := UInt8.lt_iff_toNat_lt.1 h; omega
      simp [h, h']
    · have h' : ¬ (a.toNat : Int) < b.toNat := by have := mt UInt8.lt_iff_toNat_lt.2 h; omega
      by_cases e : a = b
      · subst e; simp
      · have e' : (a.toNat : Int) > b.toNat := by
          have : a.toNat ≠ b.toNat := fun k => e (UInt8.toNat_inj.1 k)
          omega
        simp [h, h', e, e']
end Go.Proofs.YtfnlgfacadmjpaaGreatDoor.Cmpr
namespace Go.Proofs.YtfnlgfacadmjpaaGreatDoor
open Go.RowKit

/-- The comparison of two texts. -/
def ctx (a b : ByteArray) : Int := Cmpr.txt a.data.toList b.data.toList
theorem ctx_tot : Cmpr.Tot ctx := by
  refine ⟨fun a b => Cmpr.txt_tot.rng _ _, fun a b => ?_, fun a b => Cmpr.txt_tot.anti _ _, fun a b c => Cmpr.txt_tot.trans _ _ _⟩
  unfold ctx
  rw [Cmpr.txt_tot.zero]
  exact ⟨fun h => by rw [← S_of a, h, S_of], fun h => by rw [h]⟩
theorem less_is (a b : ByteArray) : Op.bytesLess a.toList b.toList = decide (ctx a b = -1) := by
  rw [ByteArray.toList_eq, ByteArray.toList_eq, Cmpr.txt_less]; rfl
/-- The first number of a list that is not 0. -/
def orL : List Int → Int
  | [] => 0
  | x :: r => Cmpr.or x (orL r)
theorem orL_zero : ∀ (L : List Int) (k : Nat), (∀ j (h : j < L.length), j < k → L[j] = 0) → orL L = orL (L.drop k)
  | [], k, _ => by simp
  | x :: r, 0, _ => rfl
  | x :: r, k + 1, h => by
    have h0 : x = 0 := h 0 (by simp) (by omega)
    rw [List.drop_succ_cons, ← orL_zero r k fun j hj hk => (h (j + 1) (by simp; omega) (by omega) : (x :: r)[j + 1]'(by simp; omega) = 0)]
    subst h0; simp [orL, Cmpr.or]
end Go.Proofs.YtfnlgfacadmjpaaGreatDoor
namespace Go.Proofs.YtfnlgfacadmjpaaGreatDoor
open Go.RowKit

end Go.Proofs.YtfnlgfacadmjpaaGreatDoor
namespace Go.Proofs.YtfnlgfacadmjpaaGreatDoor
open Go.RowKit

/-- The comparison of two readings, of two lists of readings. -/
def cR (x y : El.Elt.R) : Int := orL [Cmpr.num x.1 y.1, Cmpr.num x.2 y.2]
theorem or_zero (x : Int) : Cmpr.or x 0 = x := by
  unfold Cmpr.or; split
  · rfl
  · omega
theorem cR_tot : Cmpr.Tot cR := by
  have h := Cmpr.lex_tot Cmpr.num_tot Cmpr.num_tot
  have e : cR = Cmpr.lex Cmpr.num Cmpr.num := by
    funext x y; unfold cR Cmpr.lex; simp only [orL, or_zero]
  rw [e]; exact h
def cRs (L M : List El.Elt.R) : Int := Cmpr.lst cR L M
theorem cRs_tot : Cmpr.Tot cRs := Cmpr.lst_tot cR_tot
theorem cRs_drop (L M : List El.Elt.R) (k : Nat) (h1 : k ≤ L.length) (h2 : k ≤ M.length) (h : L.take k = M.take k) : cRs L M = cRs (L.drop k) (M.drop k) := by
  induction k generalizing L M with
  | zero => rfl
  | succ k ih =>
    cases L with
    | nil => simp at h1
    | cons x L =>
      cases M with
      | nil => simp at h2
      | cons y M =>
        simp only [List.take_succ_cons, List.cons.injEq] at h
        obtain ⟨rfl, h⟩ := h
        rw [List.drop_succ_cons, List.drop_succ_cons, ← ih L M (by simpa using h1) (by simpa using h2) h]
        unfold cRs
        rw [Cmpr.lst, (cR_tot.zero x x).2 rfl]
        rfl
end Go.Proofs.YtfnlgfacadmjpaaGreatDoor
namespace Go.Proofs.YtfnlgfacadmjpaaGreatDoor
open Go.RowKit

/-- The comparison of two reports. -/
def cRep (k : Int) (nm : ByteArray) (t F A B C : Int) (L : List El.Elt.R) (k' : Int) (nm' : ByteArray) (t' F' A' B' C' : Int) (L' : List El.Elt.R) : Int :=
  orL [Cmpr.num k k', ctx nm nm', Cmpr.num t t', orL [Cmpr.num F F', Cmpr.num A A', Cmpr.num B B', Cmpr.num C C'], cRs L L']
def Cells2 (g0 g1 : Nat) (k : Int) (nm : ByteArray) (t F A B C : Int) (u : Value) (k' : Int) (nm' : ByteArray) (t' F' A' B' C' : Int) (u' : Value) (w : World) : Prop :=
  (w.cell? ⟨g0, 0, none⟩ = some (.int .i64 k) ∧ w.cell? ⟨g0, 1, none⟩ = some (.string nm) ∧ w.cell? ⟨g0, 2, none⟩ = some (.int .i64 t) ∧ w.cell? ⟨g0, 3, none⟩ = some (.int .i64 F) ∧ w.cell? ⟨g0, 4, none⟩ = some (.int .i64 A) ∧ w.cell? ⟨g0, 5, none⟩ = some (.int .i64 B) ∧ w.cell? ⟨g0, 6, none⟩ = some (.int .i64 C) ∧ w.cell? ⟨g0, 7, none⟩ = some u) ∧
  w.cell? ⟨g1, 0, none⟩ = some (.int .i64 k') ∧ w.cell? ⟨g1, 1, none⟩ = some (.string nm') ∧ w.cell? ⟨g1, 2, none⟩ = some (.int .i64 t') ∧ w.cell? ⟨g1, 3, none⟩ = some (.int .i64 F') ∧ w.cell? ⟨g1, 4, none⟩ = some (.int .i64 A') ∧ w.cell? ⟨g1, 5, none⟩ = some (.int .i64 B') ∧ w.cell? ⟨g1, 6, none⟩ = some (.int .i64 C') ∧ w.cell? ⟨g1, 7, none⟩ = some u'
theorem cells2 {Y X : World} {g0 g1 : Nat} {ty : TypeId} {k : Int} {nm : ByteArray} {t F A B C : Int} {u : Value} {k' : Int} {nm' : ByteArray} {t' F' A' B' C' : Int} {u' : Value} (r0 : Row Y g0 ty (repC k nm t F A B C u)) (r1 : Row Y g1 ty (repC k' nm' t' F' A' B' C' u'))
    (hb : Below Y.drew.heap.size Y.drew X) : Cells2 g0 g1 k nm t F A B C u k' nm' t' F' A' B' C' u' X := ⟨row8 (r0.drew.under hb), row8 (r1.drew.under hb)⟩
end Go.Proofs.YtfnlgfacadmjpaaGreatDoor
