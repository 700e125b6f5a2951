/- What the laws hold between their steps. -/
import Derived.Test.YtjaopjhfjijdaaaDoorDt
import Derived.Test.YtjaopjhfjijdaaaDoorTf
import Derived.Test.YtjaopjhfjijdaaaDoorAw
namespace Go.Proofs.YtjaopjhfjijdaaaDoor
open Go.RowKit

theorem src_ne {W Y : World} {b g : Nat} {t : TypeId} {cs : Array Value} (h : Src W b Y) (hr : Row Y g t cs) (ht : t ≠ 60) : g ≠ b := by
  obtain ⟨_, _, _, _, _, _, h3, _⟩ := h.row
  intro q
  subst q
  unfold Row at hr
  rw [hr] at h3
  injection h3 with h3
  injection h3 with _ h3
  exact ht h3
theorem Row.keep {W Y Y' : World} {b g : Nat} {t : TypeId} {cs : Array Value} (hr : Row Y g t cs) (h : Src W b Y) (hg : Y.grownBy Y' (some b)) (ht : t ≠ 60) : Row Y' g t cs :=
  hr.grown hg (fun q => by injection q with q; exact src_ne h hr ht q)
theorem EnIn.cells {Y : World} {ge off n cap : Nat} {es : List En} (h : EnIn Y (.slice (some ⟨ge, off, none⟩) n cap) es) : ∀ i (h : i < es.length), At5 Y ge (off + i * 5) es[i] := fun i hi => by
  obtain ⟨A, c, e, -, -, h4⟩ := h
  injection e with e
  obtain ⟨g, o, e2, -, h5, -⟩ := h4 i hi
  rw [← e] at e2
  injection e2 with e2
  injection e2 with e2 e3
  subst e2; subst e3
  exact h5
theorem EnIn.at {Y : World} {A : Option Addr} {n cap : Nat} {es : List En} (h : EnIn Y (.slice A n cap) es) (hp : 0 < es.length) : ∃ ge off, A = some ⟨ge, off, none⟩ ∧ n = es.length ∧ n ≤ cap ∧ ge < Y.heap.size := by
  obtain ⟨A', c, e, h2, -, h4⟩ := h
  injection e with e1 e2 e3
  subst e1; subst e2; subst e3
  obtain ⟨g, o, e2, hl, -⟩ := h4 0 hp
  exact ⟨g, o, e2, rfl, h2, hl⟩
theorem agg3 {a b c a' b' c' : Value} (h : Value.agg #[a, b, c] = .agg #[a', b', c']) : a = a' ∧ b = b' ∧ c = c' := by
  injection h with h
  have h1 := congrArg Array.toList h
  injection h1 with h1 h2
  injection h2 with h2 h3
  injection h3 with h3 _
  exact ⟨h1, h2, h3⟩
theorem TbO.cells {b base : Nat} {Y : World} {ver : Int} {es : List En} {ss : List Sq} {ge off n cap : Nat} {u : Value} (h : TbO b base Y (.agg #[.int .i64 ver, .slice (some ⟨ge, off, none⟩) n cap, u]) ver es ss) : ∀ i (h : i < es.length), At5 Y ge (off + i * 5) es[i] := by
  obtain ⟨a, c, e, hE, -⟩ := h.tb
  obtain ⟨-, e1, -⟩ := agg3 e
  subst e1
  exact hE.cells
/-- The table's cells, ready to be read. -/
theorem TbO.parts {b base : Nat} {Y : World} {t : Value} {ver : Int} {es : List En} {ss : List Sq} (h : TbO b base Y t ver es ss) : ∃ A cap B cbp, t = .agg #[.int .i64 ver, .slice A es.length cap, .slice B ss.length cbp] ∧ EnIn Y (.slice A es.length cap) es ∧ SqIn Y (.slice B ss.length cbp) ss := by
  obtain ⟨v, u, rfl, hE, hS⟩ := h.tb
  obtain ⟨A, cap, rfl, -⟩ := id hE
  obtain ⟨B, cbp, rfl, -⟩ := id hS
  exact ⟨A, cap, B, cbp, rfl, hE, hS⟩
/-- An entry is stored into a block of one's own. -/
theorem put5 {W Y : World} {b g : Nat} {z0 z1 z2 z3 z4 u0 u1 u2 u3 u4 : Value} (hs : Src W b Y) (hr : Row Y g 47 #[z0, z1, z2, z3, z4]) (hg : W.heap.size ≤ g) :
    Src W b (((((Y.setCell ⟨g, 0, none⟩ u0).setCell ⟨g, 1, none⟩ u1).setCell ⟨g, 2, none⟩ u2).setCell ⟨g, 3, none⟩ u3).setCell ⟨g, 4, none⟩ u4) ∧ Row (((((Y.setCell ⟨g, 0, none⟩ u0).setCell ⟨g, 1, none⟩ u1).setCell ⟨g, 2, none⟩ u2).setCell ⟨g, 3, none⟩ u3).setCell ⟨g, 4, none⟩ u4) g 47 #[u0, u1, u2, u3, u4] := by
  have hb := src_ne hs hr (by decide)
  refine ⟨src_put (src_put (src_put (src_put (src_put hs hg hb) hg hb) hg hb) hg hb) hg hb, ?_⟩
  have h0 : Row (Y.setCell ⟨g, 0, none⟩ u0) g 47 #[u0, z1, z2, z3, z4] := hr.put 0 _
  have h1 : Row ((Y.setCell ⟨g, 0, none⟩ u0).setCell ⟨g, 1, none⟩ u1) g 47 #[u0, u1, z2, z3, z4] := h0.put 1 _
  have h2 : Row (((Y.setCell ⟨g, 0, none⟩ u0).setCell ⟨g, 1, none⟩ u1).setCell ⟨g, 2, none⟩ u2) g 47 #[u0, u1, u2, z3, z4] := h1.put 2 _
  have h3 : Row ((((Y.setCell ⟨g, 0, none⟩ u0).setCell ⟨g, 1, none⟩ u1).setCell ⟨g, 2, none⟩ u2).setCell ⟨g, 3, none⟩ u3) g 47 #[u0, u1, u2, u3, z4] := h2.put 3 _
  exact h3.put 4 _
theorem u_in {k : Nat} (h : k ≤ 24) : IntKind.u64.wrap (k : Int) = (k : Int) := by
  have : ∀ k : Fin 25, IntKind.u64.wrap ((k : Nat) : Int) = ((k : Nat) : Int) := by decide +kernel
  exact this ⟨k, by omega⟩
theorem sh_min {k : Nat} (h : k ≤ 24) : min (IntKind.u64.wrap (k : Int)).toNat 64 = k := by
  have : ∀ k : Fin 25, min (IntKind.u64.wrap ((k : Nat) : Int)).toNat 64 = k := by decide +kernel
  exact this ⟨k, by omega⟩
end Go.Proofs.YtjaopjhfjijdaaaDoor
