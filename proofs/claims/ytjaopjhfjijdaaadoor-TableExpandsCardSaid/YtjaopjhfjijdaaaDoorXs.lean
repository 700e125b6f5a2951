/- Tables and lists that outlive the draws. What TableExpands holds between its steps. -/
import Derived.Test.YtjaopjhfjijdaaaDoorBn
import Derived.Test.YtjaopjhfjijdaaaDoorDoorT
namespace Go.Proofs.YtjaopjhfjijdaaaDoor
open Go.RowKit

theorem grown_same (Y : World) (r : Option Nat) : Y.grownBy Y r := ⟨rfl, rfl, rfl, Nat.le_refl _, fun _ _ _ => rfl⟩
/-- A table that is there now and behind every draw, call and alloc. -/
def Liv (W : World) (b : Nat) (Y : World) (tv : Value) (v : Int) (es : List En) (ss : List Sq) : Prop := ∀ Y', Src W b Y' → Y.grownBy Y' (some b) → TbIn Y' tv v es ss
/-- A list of codes that is there now and behind every draw, call and alloc. -/
def LivC (W : World) (b : Nat) (Y : World) (cv : Value) (C : List Int) : Prop := ∀ Y', Src W b Y' → Y.grownBy Y' (some b) → NmIn Y' cv C
section
variable {W Y Y' : World} {b : Nat} {tv cv : Value} {v : Int} {es : List En} {ss : List Sq} {C : List Int}
theorem Liv.step (h : Liv W b Y tv v es ss) (hg : Y.grownBy Y' (some b)) : Liv W b Y' tv v es ss := fun X hs hx => h X hs (grown_trans hg hx)
theorem Liv.under (h : Liv W b Y tv v es ss) (hb : Below Y.heap.size Y Y') : Liv W b Y' tv v es ss := h.step (grown_below hb)
theorem Liv.now (h : Liv W b Y tv v es ss) (hs : Src W b Y) : TbIn Y tv v es ss := h Y hs (grown_same Y _)
theorem Liv.old (h : TbIn W tv v es ss) : Liv W b Y tv v es ss := fun _ hs _ => h.under hs.below
theorem Liv.own {base : Nat} {va vb : Value} {L : List (Int × Value)} (h : TbL b base Y va vb es ss L) : Liv W b Y (.agg #[.int .i64 v, va, vb]) v es ss := fun _ _ hg => (h.step hg).tb
theorem LivC.step (h : LivC W b Y cv C) (hg : Y.grownBy Y' (some b)) : LivC W b Y' cv C := fun X hs hx => h X hs (grown_trans hg hx)
theorem LivC.under (h : LivC W b Y cv C) (hb : Below Y.heap.size Y Y') : LivC W b Y' cv C := h.step (grown_below hb)
theorem LivC.now (h : LivC W b Y cv C) (hs : Src W b Y) : NmIn Y cv C := h Y hs (grown_same Y _)
theorem LivC.old (h : NmIn W cv C) : LivC W b Y cv C := fun _ hs _ => h.under hs.below
theorem LivC.own (h : NmO b Y cv C) : LivC W b Y cv C := fun _ _ hg => (h.step hg).1
end
end Go.Proofs.YtjaopjhfjijdaaaDoor
namespace Go.Proofs.YtjaopjhfjijdaaaDoor
open Go.RowKit

/-- A table: its number, its two lists as values, what they hold. -/
abbrev Tx := Int × Value × Value × List En × List Sq
abbrev txV (t : Tx) : Value := .agg #[.int .i64 t.1, t.2.1, t.2.2.1]
abbrev txC (t : Tx) : Array Value := #[.int .i64 t.1, t.2.1, t.2.2.1]
/-- The reader, the three tables in their cells, and that they outlive the draws. -/
def Xs (W : World) (b g4 g10 g11 : Nat) (p q r : Tx) (Y : World) : Prop :=
  Src W b Y ∧ Row Y g4 25 (txC p) ∧ Row Y g10 25 (txC q) ∧ Row Y g11 25 (txC r) ∧ ∀ t ∈ [p, q, r], Liv W b Y (txV t) t.1 t.2.2.2.1 t.2.2.2.2
/-- The three tables in a row. -/
def Xt (g : Nat) (p q r : Tx) (Y : World) : Prop := Row Y g 25 #[.int .i64 p.1, p.2.1, p.2.2.1, .int .i64 q.1, q.2.1, q.2.2.1, .int .i64 r.1, r.2.1, r.2.2.1]
section
variable {W Y Y' : World} {b g g4 g10 g11 : Nat} {p q r : Tx}
theorem Xs.under (h : Xs W b g4 g10 g11 p q r Y) (hb : Below Y.heap.size Y Y') : Xs W b g4 g10 g11 p q r Y' := ⟨h.1.under hb, h.2.1.under hb, h.2.2.1.under hb, h.2.2.2.1.under hb, fun t ht => (h.2.2.2.2 t ht).under hb⟩
theorem Xs.drew (h : Xs W b g4 g10 g11 p q r Y) : Xs W b g4 g10 g11 p q r Y.drew := h.under (below_drewN (Below.refl _ _) 1)
theorem Xs.step (h : Xs W b g4 g10 g11 p q r Y) (hs : Src W b Y') (hg : Y.grownBy Y' (some b)) : Xs W b g4 g10 g11 p q r Y' := ⟨hs, h.2.1.keep h.1 hg (by decide), h.2.2.1.keep h.1 hg (by decide), h.2.2.2.1.keep h.1 hg (by decide), fun t ht => (h.2.2.2.2 t ht).step hg⟩
theorem Xs.tb (h : Xs W b g4 g10 g11 p q r Y) {t : Tx} (ht : t ∈ [p, q, r]) : TbIn Y (txV t) t.1 t.2.2.2.1 t.2.2.2.2 := (h.2.2.2.2 t ht).now h.1
theorem Xs.forms (h : Xs W b g4 g10 g11 p q r Y) {t : Tx} (ht : t ∈ [p, q, r]) : (∃ A c, t.2.1 = .slice A t.2.2.2.1.length c) ∧ ∃ B d, t.2.2.1 = .slice B t.2.2.2.2.length d := by
  obtain ⟨va, vb, e, ⟨A, c, e1, -⟩, B, d, e2, -⟩ := h.tb ht
  have e' : [(.int .i64 t.1 : Value), t.2.1, t.2.2.1] = [.int .i64 t.1, va, vb] := by
    have := congrArg (fun v : Value => match v with | .agg cs => cs.toList | _ => []) e
    exact this
  injection e' with _ e'
  injection e' with e3 e'
  injection e' with e4 _
  exact ⟨⟨A, c, e3.trans e1⟩, B, d, e4.trans e2⟩
/-- One of the three. -/
theorem Xt.pick (h : Xt g p q r Y) {k : Nat} (hk : k < 3) : ∃ t ∈ [p, q, r], Y.cell? ⟨g, k * 3, none⟩ = some (.int .i64 t.1) ∧ Y.cell? ⟨g, k * 3 + 1, none⟩ = some t.2.1 ∧ Y.cell? ⟨g, k * 3 + 2, none⟩ = some t.2.2.1 := by
  unfold Xt at h
  rcases (by omega : k = 0 ∨ k = 1 ∨ k = 2) with rfl | rfl | rfl
  · exact ⟨p, by simp, by rw [h.cell]; rfl, by rw [h.cell]; rfl, by rw [h.cell]; rfl⟩
  · exact ⟨q, by simp, by rw [h.cell]; rfl, by rw [h.cell]; rfl, by rw [h.cell]; rfl⟩
  · exact ⟨r, by simp, by rw [h.cell]; rfl, by rw [h.cell]; rfl, by rw [h.cell]; rfl⟩
end
end Go.Proofs.YtjaopjhfjijdaaaDoor
