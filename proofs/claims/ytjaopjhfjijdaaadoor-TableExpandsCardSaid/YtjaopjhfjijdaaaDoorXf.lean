/- More of what TableExpands holds between its steps. -/
import Derived.Test.YtjaopjhfjijdaaaDoorXs
import Derived.Test.YtjaopjhfjijdaaaDoorCh
namespace Go.Proofs.YtjaopjhfjijdaaaDoor
open Go.RowKit

/-- A list of codes: its value, what it holds. -/
abbrev Cx := Value × List Int
/-- Four lists of codes in a row. -/
def Xc (W : World) (b g : Nat) (c0 c1 c2 c3 : Cx) (Y : World) : Prop := Row Y g 26 #[c0.1, c1.1, c2.1, c3.1] ∧ ∀ c ∈ [c0, c1, c2, c3], LivC W b Y c.1 c.2
/-- A table's number and what it holds. -/
abbrev tx (t : Tx) : Int × List En × List Sq := (t.1, t.2.2.2.1, t.2.2.2.2)
/-- What Choose answers, as a function of the list. -/
def ChA (T : List (Int × List En × List Sq)) (y x : Int) (u : Int × List En × List Sq) : Prop := (x = 9 ∧ (∀ j (hj : j < T.length), (T[j]).1 ≠ y) ∧ u = (0, [], [])) ∨ (x = 0 ∧ ∃ i, ∃ hi : i < T.length, (T[i]).1 = y ∧ (∀ j (hj : j < T.length), j < i → (T[j]).1 ≠ y) ∧ u = T[i])
theorem ChA.one {T : List (Int × List En × List Sq)} {y x x' : Int} {u u' : Int × List En × List Sq} (h : ChA T y x u) (k : ChA T y x' u') : x = x' ∧ u = u' := by
  rcases h with ⟨rfl, h1, rfl⟩ | ⟨rfl, i, hi, h1, h2, rfl⟩
  · rcases k with ⟨rfl, k1, rfl⟩ | ⟨rfl, j, hj, k1, k2, rfl⟩
    · exact ⟨rfl, rfl⟩
    · exact absurd k1 (h1 j hj)
  · rcases k with ⟨rfl, k1, rfl⟩ | ⟨rfl, j, hj, k1, k2, rfl⟩
    · exact absurd h1 (k1 i hi)
    · have : i = j := by
        rcases Nat.lt_trichotomy i j with q | q | q
        · exact absurd h1 (k2 i hi q)
        · exact q
        · exact absurd k1 (h2 j hj q)
      subst this
      exact ⟨rfl, rfl⟩
theorem ChA.lens {T : List (Int × List En × List Sq)} {y x : Int} {u : Int × List En × List Sq} (h : ChA T y x u) (hT : ∀ p ∈ T, p.2.1.length ≤ 1000 ∧ p.2.2.length ≤ 1000 ∧ ∀ s ∈ p.2.2, s.2.length ≤ 1000) : u.2.2.length ≤ 1000 ∧ ∀ s ∈ u.2.2, s.2.length ≤ 1000 := by
  rcases h with ⟨rfl, h1, rfl⟩ | ⟨rfl, i, hi, h1, h2, rfl⟩
  · exact ⟨Nat.zero_le _, fun s hs => absurd hs List.not_mem_nil⟩
  · exact (hT _ (List.getElem_mem hi)).2
/-- What Choose leaves, the answer's form and its memory apart. -/
def ChB (w : World) (T : List (Int × List En × List Sq)) (y : Int) (e : Ending) (w' : World) : Prop := ∃ (x : Int) (u : Int × List En × List Sq) (A B : Option Addr) (c d : Nat), e = .returned (.tuple #[.agg #[.int .i64 u.1, .slice A u.2.1.length c, .slice B u.2.2.length d], .int .i64 x]) ∧ ChA T y x u ∧ TbIn w' (.agg #[.int .i64 u.1, .slice A u.2.1.length c, .slice B u.2.2.length d]) u.1 u.2.1 u.2.2 ∧ Below w.heap.size w w'
theorem TbIn.form {w : World} {t : Value} {v : Int} {es : List En} {ss : List Sq} (h : TbIn w t v es ss) : ∃ A B c d, t = .agg #[.int .i64 v, .slice A es.length c, .slice B ss.length d] := by
  obtain ⟨a, b, rfl, ⟨A, c, rfl, -⟩, B, d, rfl, -⟩ := h
  exact ⟨A, B, c, d, rfl⟩
theorem ChR.toB {w w' : World} {T : List (Int × List En × List Sq)} {y : Int} {e : Ending} (h : ChR w T y e w') : ChB w T y e w' := by
  obtain ⟨x, t, rfl, hb, ⟨rfl, h1, rfl⟩ | ⟨rfl, i, hi, h1, h2, h3⟩⟩ := h
  · exact ⟨9, (0, [], []), none, none, 0, 0, rfl, .inl ⟨rfl, h1, rfl⟩, ⟨_, _, rfl, EnIn.nil _, ⟨none, 0, rfl, Nat.le_refl _, by omega, fun i hi => absurd hi (Nat.not_lt_zero _)⟩⟩, hb⟩
  · obtain ⟨A, B, c, d, rfl⟩ := h3.form
    exact ⟨0, T[i], A, B, c, d, rfl, .inr ⟨rfl, i, hi, h1, h2, rfl⟩, h3, hb⟩
section
variable {W Y Y' : World} {b g g4 g10 g11 : Nat} {p q r : Tx} {c0 c1 c2 c3 : Cx}
theorem Xc.under (h : Xc W b g c0 c1 c2 c3 Y) (hb : Below Y.heap.size Y Y') : Xc W b g c0 c1 c2 c3 Y' := ⟨h.1.under hb, fun c hc => (h.2 c hc).under hb⟩
theorem Xc.pick (h : Xc W b g c0 c1 c2 c3 Y) (hs : Src W b Y) {k : Nat} (hk : k < 4) : ∃ c ∈ [c0, c1, c2, c3], Y.cell? ⟨g, k, none⟩ = some c.1 ∧ ∃ A d, c.1 = .slice A c.2.length d := by
  have hf : ∀ c ∈ [c0, c1, c2, c3], ∃ A d, c.1 = .slice A c.2.length d := fun c hc => by
    obtain ⟨A, d, e, -⟩ := (h.2 c hc).now hs
    exact ⟨A, d, e⟩
  rcases (by omega : k = 0 ∨ k = 1 ∨ k = 2 ∨ k = 3) with rfl | rfl | rfl | rfl
  · exact ⟨c0, by simp, by rw [h.1.cell]; rfl, hf c0 (by simp)⟩
  · exact ⟨c1, by simp, by rw [h.1.cell]; rfl, hf c1 (by simp)⟩
  · exact ⟨c2, by simp, by rw [h.1.cell]; rfl, hf c2 (by simp)⟩
  · exact ⟨c3, by simp, by rw [h.1.cell]; rfl, hf c3 (by simp)⟩
theorem Xs.tl (h : Xs W b g4 g10 g11 p q r Y) (hg : Row Y g 25 #[.int .i64 p.1, p.2.1, p.2.2.1, .int .i64 q.1, q.2.1, q.2.2.1, .int .i64 r.1, r.2.1, r.2.2.1]) : TlIn Y (.slice (some ⟨g, 0, none⟩) 3 3) [tx p, tx q, tx r] := by
  refine ⟨some ⟨g, 0, none⟩, 3, rfl, Nat.le_refl _, by omega, fun i hi => ?_⟩
  have key : ∀ t ∈ [p, q, r], ∃ B cb D cd, t.2.1 = .slice B t.2.2.2.1.length cb ∧ t.2.2.1 = .slice D t.2.2.2.2.length cd ∧ EnIn Y (.slice B t.2.2.2.1.length cb) t.2.2.2.1 ∧ SqIn Y (.slice D t.2.2.2.2.length cd) t.2.2.2.2 := fun t htm => by
    obtain ⟨⟨B, cb, e1⟩, D, cd, e2⟩ := h.forms htm
    obtain ⟨va, vb, e, hE, hS⟩ := h.tb htm
    obtain ⟨-, ea, eb⟩ := agg3 e
    subst ea; subst eb
    rw [e1] at hE
    rw [e2] at hS
    exact ⟨B, cb, D, cd, e1, e2, hE, hS⟩
  have hi3 : i < 3 := hi
  rcases (by omega : i = 0 ∨ i = 1 ∨ i = 2) with rfl | rfl | rfl
  · obtain ⟨B, cb, D, cd, e1, e2, hE, hS⟩ := key p (by simp)
    exact ⟨g, 0, B, cb, D, cd, rfl, hg.lt, by rw [hg.cell]; rfl, by rw [hg.cell]; exact congrArg some e1, by rw [hg.cell]; exact congrArg some e2, hE, hS⟩
  · obtain ⟨B, cb, D, cd, e1, e2, hE, hS⟩ := key q (by simp)
    exact ⟨g, 0, B, cb, D, cd, rfl, hg.lt, by rw [hg.cell]; rfl, by rw [hg.cell]; exact congrArg some e1, by rw [hg.cell]; exact congrArg some e2, hE, hS⟩
  · obtain ⟨B, cb, D, cd, e1, e2, hE, hS⟩ := key r (by simp)
    exact ⟨g, 0, B, cb, D, cd, rfl, hg.lt, by rw [hg.cell]; rfl, by rw [hg.cell]; exact congrArg some e1, by rw [hg.cell]; exact congrArg some e2, hE, hS⟩
theorem Xt.under (h : Xt g p q r Y) (hb : Below Y.heap.size Y Y') : Xt g p q r Y' := Row.under h hb
theorem Xt.step (h : Xt g p q r Y) (hs : Src W b Y) (hg : Y.grownBy Y' (some b)) : Xt g p q r Y' := Row.keep h hs hg (by decide)
/-- A table out of its parts in this form. -/
theorem Xs.tbF (h : Xs W b g4 g10 g11 p q r Y) {t : Tx} (ht : t ∈ [p, q, r]) {A B : Option Addr} {c d : Nat} (e5 : t.2.1 = .slice A t.2.2.2.1.length c) (e6 : t.2.2.1 = .slice B t.2.2.2.2.length d) : TbIn Y (.agg #[.int .i64 t.1, .slice A t.2.2.2.1.length c, .slice B t.2.2.2.2.length d]) t.1 t.2.2.2.1 t.2.2.2.2 := by
  have := h.tb ht
  unfold txV at this
  rwa [e5, e6] at this
end
end Go.Proofs.YtjaopjhfjijdaaaDoor
