/- The contract of Validate of the program. -/
import Derived.Test.YthlcpmkjemdhkaaDoorRd
namespace Go.Proofs.YthlcpmkjemdhkaaDoor
open Go.RowKit

/-- The closure that Validate hands over: whether a reading has this error. -/
theorem pred_check (e : Int) (ge : Nat) (w : World) (hT : Tab w) (hg : ge < w.heap.size) (hcell : w.cell? ⟨ge, 0, none⟩ = some (.int .i64 e)) :
    PredBelow Tryd.prog 38 #[.pointer (some ⟨ge, 0, none⟩)] (fun x : Elt.R => .agg (encR x).toArray) (fun r => Elt.chk r.1 r.2 == e) w := fun W x hb => by
  have hcW : W.cell? ⟨ge, 0, none⟩ = some (.int .i64 e) := (hb.cell (p := ⟨ge, 0, none⟩) hg).trans hcell
  have hgW : ge < W.heap.size := Nat.lt_of_lt_of_le hg hb.size
  have hTW := hT.under hb
  obtain ⟨a, b⟩ := x
  show Calls Tryd.prog 38 #[.agg #[.int .i64 a, .int .i64 b], .pointer (some ⟨ge, 0, none⟩)] W _
  have b1 : Below W.heap.size W (W.alloc (.cells #[.int .i64 a, .int .i64 b] 47)) := (Below.refl _ _).alloc (Nat.le_refl _) _
  have r1 := Row.new W #[.int .i64 a, .int .i64 b] 47
  have hT1 := hTW.under b1
  have hc1 := (b1.cell (p := ⟨ge, 0, none⟩) hgW).trans hcW
  have HB := Lib.hid (hb.trans (b1.mono hb.size))
  obtain ⟨p0, p1⟩ := row2 r1
  have HK := Lib.hid (fun W (hW : Tab W) => check_any a b W hW)
  have hs1 : ge < (W.alloc (.cells #[.int .i64 a, .int .i64 b] 47)).heap.size := Nat.lt_of_lt_of_le hgW b1.size
  clear hcW hTW hT hcell hb
  go_enter Tryd.func38, Tryd.ntmps38
  go_upto_region 1 with fail
  generalize W.alloc (.cells #[.int .i64 a, .int .i64 b] 47) = W1 at *
  generalize W.heap.size = gb at *
  have R1 := Lib.hid r1
  have T1 := Lib.hid hT1
  clear r1 hT1 b1
  refine wp_region_held_drew (S := fun w' : World => w'.cell? ⟨gb, 0, none⟩ = some (.int .i64 a) ∧ w'.cell? ⟨gb, 1, none⟩ = some (.int .i64 b) ∧ w'.cell? ⟨ge, 0, none⟩ = some (.int .i64 e)) (by kernel_rfl) ⟨p0, p1, hc1⟩ (fun hHeld => ?_)
  refine wpAnyH_take (i := 0) (oi := ⟨some 4, _, _, _, _, none⟩) (v := ?_) rfl (by kernel_rfl) (by kernel_rfl) (by kernel_rfl) (fun _ _ _ h => h) (Or.inl ⟨by rfl, ?_⟩) (by assumption) ?_
  case refine_2 => (intro wx hSx; (try dsimp only at hSx); go_simp; first | done | with_reducible rfl)
  try simp only [Act.put, List.setIfInBounds_toArray, List.set_cons_zero, List.set_cons_succ]
  refine wpAnyH_take (i := 2) (oi := ⟨some 6, _, _, _, _, none⟩) (v := ?_) rfl (by kernel_rfl) (by kernel_rfl) (by kernel_rfl) (fun _ _ _ h => h) (Or.inl ⟨by rfl, ?_⟩) (by assumption) ?_
  case refine_2 => (intro wx hSx; (try dsimp only at hSx); go_simp; first | done | with_reducible rfl)
  try simp only [Act.put, List.setIfInBounds_toArray, List.set_cons_zero, List.set_cons_succ]
  refine wpAnyH_ready (rs := [1]) (by kernel_rfl) (by simp) ?_
  refine AllReadyH.cons rfl (fun K hK => ?_) AllReadyH.nil
  go_simp
  have hTd : Tab W1.drew := T1.out
  refine (HK.out _ hTd).mono ?_
  rintro e' w3 ⟨rfl, g3⟩
  have G3 : Hid (Below W1.heap.size W1 w3) := Lib.hid (undrew g3)
  clear g3
  have SS := row2 (R1.out.under G3.out)
  have SC := (G3.out.cell (p := ⟨ge, 0, none⟩) hs1).trans hc1
  go_wp2_with fail
  refine hK.out _ _ ⟨SS.1, SS.2, SC⟩ (fun hHeld2 => ?_)
  clear hK K hHeld SS SC
  try simp only [Act.put, List.setIfInBounds_toArray, List.set_cons_zero, List.set_cons_succ]
  refine wpAnyH_take (i := 3) (oi := ⟨some 7, _, _, _, _, none⟩) (v := ?_) rfl (by kernel_rfl) (by kernel_rfl) (by kernel_rfl) (fun _ _ _ h => h) (Or.inl ⟨by rfl, ?_⟩) (by assumption) ?_
  case refine_2 => (intro wx hSx; (try dsimp only at hSx); go_simp; first | done | with_reducible rfl)
  try simp only [Act.put, List.setIfInBounds_toArray, List.set_cons_zero, List.set_cons_succ]
  refine wpAnyH_take (i := 4) (oi := ⟨some 3, _, _, _, _, none⟩) (v := ?_) rfl (by kernel_rfl) (by kernel_rfl) (by kernel_rfl) (fun _ _ _ h => h) (Or.inl ⟨by rfl, ?_⟩) (by assumption) ?_
  case refine_2 => (intro wx hSx; (try dsimp only at hSx); go_simp; first | done | with_reducible rfl)
  try simp only [Act.put, List.setIfInBounds_toArray, List.set_cons_zero, List.set_cons_succ]
  refine wpAnyH_done (by kernel_rfl) ?_ _
  go_wp2_with fail
  go_ret
  exact ⟨rfl, HB.out.trans (G3.out.mono HB.out.size)⟩
theorem agg47 : ∀ w, (isAgg 47).run Tryd.prog w = .ok true w := Tryd.isAgg47
theorem size47 : ∀ w, (Go.sizeOf 47).run Tryd.prog w = .ok 2 w := Tryd.sizeOf47
set_option maxHeartbeats 1000000 in
theorem index_nil (A : Option Addr) (cap g : Nat) (lb : Array Value) (w : World) :
    Calls Tryd.prog 35 #[.slice A 0 cap, .func (.func g) #[] lb] w fun e w' => e = .returned (.int .i64 (-1)) ∧ w = w' := by
  go_enter Tryd.func35, Tryd.ntmps35
  go_wp2_with fail
  go_loop [5, 8] (fun _ t => t = .int .i64 0) (fun _ _ => 0)
  case atStart => rfl
  case round =>
    subst hrel
    go_wp2_with fail
    go_ret
    exact ⟨rfl, rfl⟩
theorem least {L : List Elt.R} (p : Elt.R → Bool) : (∀ j (h : j < L.length), p L[j] = false) ∨ ∃ k, ∃ h : k < L.length, p L[k] = true ∧ ∀ j (hj : j < L.length), j < k → p L[j] = false := by
  induction L with
  | nil => exact .inl (fun j h => by simp at h)
  | cons x r ih =>
    by_cases hx : p x = true
    · exact .inr ⟨0, by simp, hx, fun j _ h => by omega⟩
    · have hx' : p x = false := by simpa using hx
      rcases ih with h | ⟨k, hk, h1, h2⟩
      · refine .inl (fun j hj => ?_)
        cases j with
        | zero => exact hx'
        | succ j => exact h j (by simpa using hj)
      · refine .inr ⟨k + 1, by simpa using hk, h1, fun j hj hlt => ?_⟩
        cases j with
        | zero => exact hx'
        | succ j => exact h2 j (by simpa using hj) (by omega)
theorem getE {L : List Elt.R} {j : Nat} (h : j < L.length) : L[j]! = L[j] := by
  rw [List.getElem!_eq_getElem?_getD, List.getElem?_eq_getElem h]; rfl
theorem encR_len (x : Elt.R) : (encR x).length = 2 := rfl
theorem enc_cells {w : World} {g off : Nat} {L : List Elt.R} (hc : ∀ i (h : i < L.length), w.cell? ⟨g, off + i * 2, none⟩ = some (.int .i64 (L[i]).1) ∧ w.cell? ⟨g, off + i * 2 + 1, none⟩ = some (.int .i64 (L[i]).2)) :
    ∀ j, j < L.length → ∀ i v, (encR L[j]!)[i]? = some v → w.cell? ⟨g, off + j * 2 + i, none⟩ = some v := by
  intro j hj i v hv
  rw [getE hj] at hv
  obtain ⟨c0, c1⟩ := hc j hj
  match i, hv with
  | 0, hv => simp [encR] at hv; rw [← hv]; exact c0
  | 1, hv => simp [encR] at hv; rw [← hv]; exact c1
  | i + 2, hv => simp [encR] at hv
theorem containsFunc_any (v : Value) (L : List Elt.R) (e : Int) (ge : Nat) (w : World) (hL : RdIn w v L) (hT : Tab w) (hg : ge < w.heap.size) (hcell : w.cell? ⟨ge, 0, none⟩ = some (.int .i64 e)) :
    Calls Tryd.prog 37 #[v, .func (.func 38) #[] #[.pointer (some ⟨ge, 0, none⟩)]] w fun e' w' => e' = .returned (.bool (L.any fun r => Elt.chk r.1 r.2 == e)) ∧ Below w.heap.size w w' := by
  by_cases hp : 0 < L.length
  · obtain ⟨g, off, cap, rfl, h1, h2, hgl, hc⟩ := hL.one hp
    have eg : ∀ args w, (callFunc 38 args).run Tryd.prog w = .ok (.enter 38 args) w := enters_of Tryd.func38 (by kernel_rfl) rfl
    have := AnyQ.slices_ContainsFunc Tryd.lCon 2 agg47 size47 encR encR_len (fun r => Elt.chk r.1 r.2 == e) 38 #[.pointer (some ⟨ge, 0, none⟩)] eg g off L.length cap L w (pred_check e ge w hT hg hcell) (Nat.le_refl _) (by omega) hgl (enc_cells hc)
    rw [List.take_length] at this
    exact this
  · obtain rfl : L = [] := List.eq_nil_of_length_eq_zero (by omega)
    obtain ⟨A, cap, rfl, -⟩ := hL
    clear hT hg hcell
    show Calls Tryd.prog 37 #[.slice A 0 cap, .func (.func 38) #[] #[.pointer (some ⟨ge, 0, none⟩)]] w _
    go_enter Tryd.func37, Tryd.ntmps37
    go_wp2_with fail
    refine (index_nil _ _ _ _ _).mono ?_
    rintro e' w1 ⟨rfl, rfl⟩
    go_wp2_with fail
    go_ret
    exact ⟨rfl, Below.refl _ _⟩
end Go.Proofs.YthlcpmkjemdhkaaDoor
