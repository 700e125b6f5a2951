/- The contracts of Validate and Find of the program. -/
import Derived.Test.YtngbjccfmglbaaaDoorVald
namespace Go.Proofs.YtngbjccfmglbaaaDoor
open Go.RowKit

theorem any_chk {L : List Elt.R} {e : Int} : (L.any fun r => Elt.chk r.1 r.2 == e) = true ↔ ∃ r ∈ L, Elt.chk r.1 r.2 = e := by
  rw [List.any_eq_true]
  exact ⟨fun ⟨r, h, he⟩ => ⟨r, h, beq_iff_eq.1 he⟩, fun ⟨r, h, he⟩ => ⟨r, h, beq_iff_eq.2 he⟩⟩
/-- The closure that Find hands over: whether a reading is of this element. -/
theorem pred_find (c : Int) (ge : Nat) (w : World) (hg : ge < w.heap.size) (hcell : w.cell? ⟨ge, 0, none⟩ = some (.int .i64 c)) :
    PredBelow Tryd.prog 46 #[.pointer (some ⟨ge, 0, none⟩)] (fun x : Elt.R => .agg (encR x).toArray) (fun r => r.1 == c) w := fun W x hb => by
  have hcW : W.cell? ⟨ge, 0, none⟩ = some (.int .i64 c) := (hb.cell (p := ⟨ge, 0, none⟩) hg).trans hcell
  have hgW : ge < W.heap.size := Nat.lt_of_lt_of_le hg hb.size
  obtain ⟨a, b⟩ := x
  show Calls Tryd.prog 46 #[.agg #[.int .i64 a, .int .i64 b], .pointer (some ⟨ge, 0, none⟩)] W _
  have b1 : Below W.heap.size W (W.alloc (.cells #[.int .i64 a, .int .i64 b] 30)) := (Below.refl _ _).alloc (Nat.le_refl _) _
  have r1 := Row.new W #[.int .i64 a, .int .i64 b] 30
  have hc1 := (b1.cell (p := ⟨ge, 0, none⟩) hgW).trans hcW
  have HB := Lib.hid (hb.trans (b1.mono hb.size))
  obtain ⟨p0, p1⟩ := row2 r1
  clear hcW hcell hb
  go_enter Tryd.func46, Tryd.ntmps46
  go_upto_region 1 with fail
  generalize W.alloc (.cells #[.int .i64 a, .int .i64 b] 30) = W1 at *
  generalize W.heap.size = gb at *
  clear r1 b1
  go_wp2_with fail
  go_ret
  exact ⟨rfl, HB.out⟩
theorem indexFunc_any (v : Value) (L : List Elt.R) (c : Int) (ge : Nat) (w : World) (hL : RdIn w v L) (hg : ge < w.heap.size) (hcell : w.cell? ⟨ge, 0, none⟩ = some (.int .i64 c)) :
    Calls Tryd.prog 45 #[v, .func (.func 46) #[] #[.pointer (some ⟨ge, 0, none⟩)]] w fun e' w' => (∃ z, e' = .returned (.int .i64 z) ∧ ((z = -1 ∧ Elt.fnd L c = none) ∨ ∃ k : Nat, ∃ h : k < L.length, z = k ∧ Elt.fnd L c = some (L[k]).2)) ∧ Below w.heap.size w w' := by
  by_cases hp : 0 < L.length
  · obtain ⟨g, off, cap, rfl, h1, h2, hgl, hc⟩ := hL.one hp
    have eg : ∀ args w, (callFunc 46 args).run Tryd.prog w = .ok (.enter 46 args) w := enters_of Tryd.func46 (by kernel_rfl) rfl
    have := AnyQ.slices_IndexFunc Tryd.lIdx 2 agg47 size47 encR encR_len (fun r => r.1 == c) 46 #[.pointer (some ⟨ge, 0, none⟩)] eg g off L.length cap L w (pred_find c ge w hg hcell) (Nat.le_refl _) (by omega) hgl (enc_cells hc)
    refine Calls.mono this fun e' w' ⟨he, hb⟩ => ⟨?_, hb⟩
    rcases least (L := L) (fun r => r.1 == c) with hn | ⟨k, hk, k1, k2⟩
    · refine ⟨-1, by rw [he, Lib.idxBy_miss _ _ _ _ (fun j hj => by rw [getE hj]; exact hn j hj)], .inl ⟨rfl, ?_⟩⟩
      unfold Elt.fnd
      have hf : L.find? (fun r => r.1 == c) = none := List.find?_eq_none.2 (fun r hr => by
        obtain ⟨i, hi, rfl⟩ := List.getElem_of_mem hr
        rw [hn i hi]; decide)
      rw [hf]; rfl
    · refine ⟨k, by rw [he, Lib.idxBy_hit _ _ _ _ _ hk (Nat.le_refl _) (by rw [getE hk]; exact k1) (fun j hj => by rw [getE (by omega)]; exact k2 j (by omega) hj)], .inr ⟨k, hk, rfl, ?_⟩⟩
      unfold Elt.fnd
      have hf : L.find? (fun r => r.1 == c) = some L[k] := List.find?_eq_some_iff_getElem.2 ⟨k1, k, hk, rfl, fun j hj => by rw [k2 j (by omega) hj]; rfl⟩
      rw [hf]; rfl
  · obtain rfl : L = [] := List.eq_nil_of_length_eq_zero (by omega)
    obtain ⟨A, cap, rfl, -⟩ := hL
    exact (index_nil A cap _ _ w).mono fun e' w' ⟨he, hw⟩ => ⟨⟨-1, he, .inl ⟨rfl, rfl⟩⟩, hw ▸ Below.refl _ _⟩
/-- What Find answers. -/
def FndR (w : World) (L : List Elt.R) (c : Int) (e : Ending) (w' : World) : Prop := e = .returned (.tuple #[.int .i64 ((Elt.fnd L c).getD 0), .bool (Elt.fnd L c).isSome]) ∧ Below w.heap.size w w'
set_option maxHeartbeats 1000000 in
theorem find_any (v : Value) (L : List Elt.R) (c : Int) (w : World) (hL : RdIn w v L) :
    Calls Tryd.prog 33 #[v, .int .i64 c] w (FndR w L c) := by
  have b1 : Below w.heap.size w (w.alloc (.cells #[.int .i64 c] 3)) := (Below.refl _ _).alloc (Nat.le_refl _) _
  have r1 := Row.new w #[.int .i64 c] 3
  have hL1 := hL.under b1
  have HI := Lib.hid (indexFunc_any v L c w.heap.size _ hL1 r1.lt ((r1.cell 0).trans rfl))
  obtain ⟨A, cap, rfl, h1, h2, -⟩ := id hL
  have HL := Lib.hid hL1
  clear hL hL1 r1
  go_enter Tryd.func33, Tryd.ntmps33
  go_upto_region 1 with fail
  generalize w.alloc (.cells #[.int .i64 c] 3) = W1 at *
  go_wp2_with fail
  refine HI.out.mono ?_
  rintro e w2 ⟨⟨z, rfl, hz⟩, g2⟩
  have B2 := Lib.hid (b1.trans (g2.mono b1.size))
  have L2 := HL.out.under g2
  clear g2 b1 HI
  rcases hz with ⟨rfl, hf⟩ | ⟨k, hk, rfl, hf⟩
  · have HF := Lib.hid hf; clear hf L2
    go_wp2_with fail
    go_ret2
    exact ⟨by rw [HF.out]; rfl, B2.out⟩
  · obtain ⟨A', cap', e, -, -, hR⟩ := L2
    injection e with e1 e2 e3
    subst e1
    obtain ⟨g, off, rfl, -, c0, c1⟩ := hR k hk
    have HF := Lib.hid hf; clear hf hR e3
    have k0 : (0 : Int) ≤ (k : Int) := by omega
    have k1 : (k : Int) < (L.length : Int) := by omega
    have k2 : ¬ (k : Int) < 0 := by omega
    generalize L[k] = x at *
    go_wp2_with fail
    go_ret2
    exact ⟨by rw [HF.out]; rfl, B2.out⟩
end Go.Proofs.YtngbjccfmglbaaaDoor


