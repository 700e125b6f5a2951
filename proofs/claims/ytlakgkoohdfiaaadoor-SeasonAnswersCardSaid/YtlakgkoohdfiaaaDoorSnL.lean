/- The walk of SeasonLearned. -/
import Derived.Test.YtlakgkoohdfiaaaDoorQas
import Derived.Test.YtlakgkoohdfiaaaDoorQap
import Derived.Test.YtlakgkoohdfiaaaDoorQat
namespace Go.Proofs.YtlakgkoohdfiaaaDoor
open Go.RowKit

/-- What is known behind the drawing: the reports, the learned climate and its box. -/
structure Slk (W : World) (R : List Rp) (vr : Value) (N : List Cm.N5) (A : Option Addr) (cap gc : Nat) (w : World) : Prop where
  below : Below W.heap.size W w
  rps : RpsIn w vr R
  nr : NrIn w (.slice A N.length cap) N
  box : Row w gc 24 #[.slice A N.length cap]
theorem Slk.under {W w w' : World} {R : List Rp} {vr : Value} {N : List Cm.N5} {A : Option Addr} {cap gc : Nat} (h : Slk W R vr N A cap gc w) (hb : Below w.heap.size w w') : Slk W R vr N A cap gc w' :=
  ⟨h.below.trans (hb.mono h.below.size), h.rps.under hb, h.nr.under hb, h.box.under hb⟩
/-- .. and the other climate, being changed. -/
structure Sd (Z : World) (M : List Cm.N5) (A : Option Addr) (L cap gd : Nat) (w : World) : Prop where
  below : Below Z.heap.size Z w
  len : M.length = L
  own : w.ownsRow Z.heap.size 50 5 (.slice A L cap) L (nrc M)
  box : Row w gd 24 #[.slice A L cap]
theorem Sd.under {Z w w' : World} {M : List Cm.N5} {A : Option Addr} {L cap gd : Nat} (h : Sd Z M A L cap gd w) (hb : Below w.heap.size w w') : Sd Z M A L cap gd w' :=
  ⟨h.below.trans (hb.mono h.below.size), h.len, El.own_under h.own hb, h.box.under hb⟩
theorem Sd.put {Z w : World} {M : List Cm.N5} {g L cap gd i : Nat} (h : Sd Z M (some ⟨g, 0, none⟩) L cap gd w) (hi : i < M.length) (x : Int) :
    Sd Z (M.set i (M[i].1, M[i].2.1, M[i].2.2.1, M[i].2.2.2.1, x)) (some ⟨g, 0, none⟩) L cap gd (w.setCell ⟨g, i * 5 + 4, none⟩ (.int .i64 x)) := by
  have hb := row_base h.own rfl
  have hne : g ≠ gd := fun e => row_not h.own h.box (by decide) (by rw [← e]; rfl)
  refine ⟨set1_below h.below hb, by rw [List.length_set]; exact h.len, ?_, h.box.far (p := ⟨g, i * 5 + 4, none⟩) hne _⟩
  have := own_setN h.own (i * 5 + 4) (.int .i64 x)
  rw [nrc_set4 M i hi x] at this
  exact this
theorem Sd.facts {Z w : World} {M : List Cm.N5} {g L cap gd i : Nat} (h : Sd Z M (some ⟨g, 0, none⟩) L cap gd w) (hi : i < M.length) : w.cell? ⟨g, i * 5 + 4, none⟩ = some (.int .i64 M[i].2.2.2.2) ∧ w.frozen? ⟨g, i * 5 + 4, none⟩ = false := by
  have hl := h.len
  refine ⟨by rw [h.own.cellAt _ (by omega), nrc_at M i hi 4 (by omega)]; rfl, ?_⟩
  rcases h.own.2 with ⟨h0, _⟩ | ⟨g', cap', cur, h0, hb, hh, -⟩
  · cases h0
  · injection h0 with h0
    injection h0 with h0
    injection h0 with h0
    subst h0
    simp [World.frozen?, hh]
theorem Sd.nr {Z w : World} {M : List Cm.N5} {A : Option Addr} {L cap gd : Nat} (h : Sd Z M A L cap gd w) : NrIn w (.slice A L cap) M := by
  have hl := h.len
  subst hl
  exact NrIn.own h.own
theorem ln_pair {R : List Rp} (h0 : errC R = 0) (h : (lrn R).2 = 0) : (lrn R).1 = outC R 2640 := by
  by_cases h2 : 200 < (outC R 2640).length
  · rw [lrn_big h0 h2] at h; cases h
  · rw [lrn_ok h0 h2]
end Go.Proofs.YtlakgkoohdfiaaaDoor

