/- Texts of this proof. -/
import Derived.Test.YtlakgkoohdfiaaaDoorQai
import Derived.Test.YtlakgkoohdfiaaaDoorQah
import Derived.OwnWalk
import Derived.Test.YtlakgkoohdfiaaaDoorShelf
namespace Go.Proofs.YtlakgkoohdfiaaaDoor.El
open Go.RowKit

theorem own_ne {w : World} {base size n g : Nat} {e t : TypeId} {v : Value} {xs : List Value} {cs : Array Value} (h : w.ownsRow base e size v n xs) (hr : Row w g t cs) (hne : e ≠ t) : some g ≠ v.ownBlock := by
  rcases h.2 with ⟨rfl, _⟩ | ⟨g', cap, cur, rfl, _, hh, _⟩
  · simp [Value.ownBlock]
  · intro he
    have : g = g' := by simpa [Value.ownBlock] using he
    subst this
    unfold Row at hr
    rw [hr] at hh
    injection hh with hh
    injection hh with _ ht
    exact hne ht.symm
theorem own_under {w w' : World} {base size n : Nat} {e : TypeId} {v : Value} {xs : List Value} (h : w.ownsRow base e size v n xs) (hb : Below w.heap.size w w') : w'.ownsRow base e size v n xs := by
  refine h.kept (row := none) (grown_below hb) ?_
  cases hv : v.ownBlock
  · exact .inl rfl
  · exact .inr (by simp)
theorem below_own {a b c : World} {B size n : Nat} {e : TypeId} {v : Value} {xs : List Value} (h : Below B a b) (hB : B ≤ b.heap.size) (ho : b.ownsRow B e size v n xs) (k : b.grownBy c v.ownBlock) : Below B a c :=
  ⟨k.os.trans h.os, k.tape.trans h.tape, k.output.trans h.output, Nat.le_trans h.size k.size, fun i hi => (k.block i (by omega) (fun e => by have := (ho.lt i e.symm).1; omega)).trans (h.block i hi)⟩
def encR (x : Elt.R) : List Value := [.int .i64 x.1, .int .i64 x.2]
/-- The cells of readings. -/
def rdc (L : List Elt.R) : List Value := L.flatMap encR
theorem rdc_snoc (L : List Elt.R) (x : Elt.R) : rdc (L ++ [x]) = rdc L ++ [.int .i64 x.1, .int .i64 x.2] := by simp [rdc, encR]
theorem rdc_at : ∀ (L : List Elt.R) (i : Nat) (h : i < L.length), (rdc L)[i * 2]? = some (.int .i64 (L[i]).1) ∧ (rdc L)[i * 2 + 1]? = some (.int .i64 (L[i]).2)
  | x :: r, 0, _ => ⟨rfl, rfl⟩
  | x :: r, i + 1, h => by
    have := rdc_at r i (by simpa using h)
    have e : rdc (x :: r) = .int .i64 x.1 :: .int .i64 x.2 :: rdc r := rfl
    rw [e, show (i + 1) * 2 = i * 2 + 1 + 1 by omega]
    simpa using this
/-- A list of readings as the program holds it. -/
def RdIn (w : World) (v : Value) (L : List Elt.R) : Prop := ∃ A cap, v = .slice A L.length cap ∧ L.length ≤ cap ∧ cap ≤ 9223372036854775807 ∧ ∀ i (h : i < L.length), ∃ g off, A = some ⟨g, off, none⟩ ∧ g < w.heap.size ∧ w.cell? ⟨g, off + i * 2, none⟩ = some (.int .i64 (L[i]).1) ∧ w.cell? ⟨g, off + i * 2 + 1, none⟩ = some (.int .i64 (L[i]).2)
theorem RdIn.under {w w' : World} {v : Value} {L : List Elt.R} (h : RdIn w v L) (hb : Below w.heap.size w w') : RdIn w' v L := by
  obtain ⟨A, cap, h1, h2, h3, h4⟩ := h
  refine ⟨A, cap, h1, h2, h3, fun i hi => ?_⟩
  obtain ⟨g, off, a, b, c, d⟩ := h4 i hi
  exact ⟨g, off, a, Nat.lt_of_lt_of_le b hb.size, (hb.cell (p := ⟨g, off + i * 2, none⟩) b).trans c, (hb.cell (p := ⟨g, off + i * 2 + 1, none⟩) b).trans d⟩
theorem RdIn.nil (w : World) : RdIn w (.slice none 0 0) [] := ⟨none, 0, rfl, Nat.le_refl _, by omega, fun i hi => by simp at hi⟩
theorem RdIn.own {w : World} {base : Nat} {v : Value} {L : List Elt.R} (h : w.ownsRow base 81 2 v L.length (rdc L)) : RdIn w v L := by
  have h' := h
  rcases h.2 with ⟨rfl, h0⟩ | ⟨g, cap, cur, rfl, _, hh, hle, hmax, _, _⟩
  · have := List.eq_nil_of_length_eq_zero h0
    subst this
    exact RdIn.nil w
  · refine ⟨some ⟨g, 0, none⟩, cap, rfl, hle, by unfold maxLen at hmax; omega, fun i hi => ⟨g, 0, rfl, (Array.getElem?_eq_some_iff.1 hh).1, ?_⟩⟩
    rw [Nat.zero_add, h'.cellAt (i * 2) (by omega), h'.cellAt (i * 2 + 1) (by omega)]
    exact rdc_at L i hi
/-- A list that is not empty lies in one block. -/
theorem RdIn.one {w : World} {v : Value} {L : List Elt.R} (h : RdIn w v L) (hp : 0 < L.length) : ∃ g off cap, v = .slice (some ⟨g, off, none⟩) L.length cap ∧ L.length ≤ cap ∧ cap ≤ 9223372036854775807 ∧ g < w.heap.size ∧ ∀ i (h : i < L.length), w.cell? ⟨g, off + i * 2, none⟩ = some (.int .i64 (L[i]).1) ∧ w.cell? ⟨g, off + i * 2 + 1, none⟩ = some (.int .i64 (L[i]).2) := by
  obtain ⟨A, cap, rfl, h2, h3, h4⟩ := h
  obtain ⟨g, off, rfl, hg, -, -⟩ := h4 0 hp
  refine ⟨g, off, cap, rfl, h2, h3, hg, fun i hi => ?_⟩
  obtain ⟨g', off', e, -, c, d⟩ := h4 i hi
  injection e with e
  injection e with e1 e2
  subst e1; subst e2
  exact ⟨c, d⟩
/-- A list of numbers as the program holds it. -/
def NmIn (w : World) (v : Value) (C : List Int) : Prop := ∃ A cap, v = .slice A C.length cap ∧ C.length ≤ cap ∧ cap ≤ 9223372036854775807 ∧ ∀ i (h : i < C.length), ∃ g off, A = some ⟨g, off, none⟩ ∧ g < w.heap.size ∧ w.cell? ⟨g, off + i, none⟩ = some (.int .i64 C[i])
theorem NmIn.under {w w' : World} {v : Value} {C : List Int} (h : NmIn w v C) (hb : Below w.heap.size w w') : NmIn w' v C := by
  obtain ⟨A, cap, h1, h2, h3, h4⟩ := h
  refine ⟨A, cap, h1, h2, h3, fun i hi => ?_⟩
  obtain ⟨g, off, a, b, c⟩ := h4 i hi
  exact ⟨g, off, a, Nat.lt_of_lt_of_le b hb.size, (hb.cell (p := ⟨g, off + i, none⟩) b).trans c⟩
theorem NmIn.of {w : World} {v : Value} (h : ListIn w v) : ∃ C, NmIn w v C := by
  rcases h with rfl | ⟨a, n, c, rfl, h1, h2, h3⟩
  · exact ⟨[], none, 0, rfl, Nat.le_refl _, by omega, fun i hi => by simp at hi⟩
  · have hx : ∀ i, ∃ x : Int, i < n → ∃ bk off, a = ⟨bk, off, none⟩ ∧ bk < w.heap.size ∧ w.cell? ⟨bk, off + i, none⟩ = some (.int .i64 x) := fun i => by
      by_cases hi : i < n
      · obtain ⟨bk, off, x, e, hl, hc, -⟩ := h3 i hi
        exact ⟨x, fun _ => ⟨bk, off, by injection e, hl, hc⟩⟩
      · exact ⟨0, fun h => absurd h hi⟩
    have hch : ∃ f : Nat → Int, ∀ i, i < n → ∃ bk off, a = ⟨bk, off, none⟩ ∧ bk < w.heap.size ∧ w.cell? ⟨bk, off + i, none⟩ = some (.int .i64 (f i)) := ⟨fun i => Classical.choose (hx i), fun i => Classical.choose_spec (hx i)⟩
    obtain ⟨f, hf⟩ := hch
    refine ⟨(List.range n).map f, some a, c, by simp, by simpa using h1, h2, fun i hi => ?_⟩
    have hi' : i < n := by simpa using hi
    obtain ⟨bk, off, e, hl, hc⟩ := hf i hi'
    exact ⟨bk, off, by rw [e], hl, by simpa using hc⟩
theorem NmIn.one {w : World} {v : Value} {C : List Int} (h : NmIn w v C) (hp : 0 < C.length) : ∃ g off cap, v = .slice (some ⟨g, off, none⟩) C.length cap ∧ C.length ≤ cap ∧ cap ≤ 9223372036854775807 ∧ g < w.heap.size ∧ ∀ i (h : i < C.length), w.cell? ⟨g, off + i, none⟩ = some (.int .i64 C[i]) := by
  obtain ⟨A, cap, rfl, h2, h3, h4⟩ := h
  obtain ⟨g, off, rfl, hg, -⟩ := h4 0 hp
  refine ⟨g, off, cap, rfl, h2, h3, hg, fun i hi => ?_⟩
  obtain ⟨g', off', e, -, c⟩ := h4 i hi
  injection e with e
  injection e with e1 e2
  subst e1; subst e2
  exact c
end Go.Proofs.YtlakgkoohdfiaaaDoor.El


namespace Go.Proofs.YtlakgkoohdfiaaaDoor.El
open Go.RowKit

/-- The closure that Validate hands over: whether a reading has this error. -/
theorem pred_check (e : Int) (ge : Nat) (w : World) (hT : Tab w) (hg : ge < w.heap.size) (hcell : w.cell? ⟨ge, 0, none⟩ = some (.int .i64 e)) :
    PredBelow Tryd.prog 98 #[.pointer (some ⟨ge, 0, none⟩)] (fun x : Elt.R => .agg (encR x).toArray) (fun r => Elt.chk r.1 r.2 == e) w := fun W x hb => by
  have hcW : W.cell? ⟨ge, 0, none⟩ = some (.int .i64 e) := (hb.cell (p := ⟨ge, 0, none⟩) hg).trans hcell
  have hgW : ge < W.heap.size := Nat.lt_of_lt_of_le hg hb.size
  have hTW := hT.under hb
  obtain ⟨a, b⟩ := x
  show Calls Tryd.prog 98 #[.agg #[.int .i64 a, .int .i64 b], .pointer (some ⟨ge, 0, none⟩)] W _
  have b1 : Below W.heap.size W (W.alloc (.cells #[.int .i64 a, .int .i64 b] 81)) := (Below.refl _ _).alloc (Nat.le_refl _) _
  have r1 := Row.new W #[.int .i64 a, .int .i64 b] 81
  have hT1 := hTW.under b1
  have hc1 := (b1.cell (p := ⟨ge, 0, none⟩) hgW).trans hcW
  have HB := Lib.hid (hb.trans (b1.mono hb.size))
  obtain ⟨p0, p1⟩ := row2 r1
  have HK := Lib.hid (fun W (hW : Tab W) => check_any a b W hW)
  have hs1 : ge < (W.alloc (.cells #[.int .i64 a, .int .i64 b] 81)).heap.size := Nat.lt_of_lt_of_le hgW b1.size
  clear hcW hTW hT hcell hb
  go_enter Tryd.func98, Tryd.ntmps98
  go_upto_region 1 with fail
  generalize W.alloc (.cells #[.int .i64 a, .int .i64 b] 81) = W1 at *
  generalize W.heap.size = gb at *
  have R1 := Lib.hid r1
  have T1 := Lib.hid hT1
  clear r1 hT1 b1
  refine wp_region_held_drew (S := fun w' : World => w'.cell? ⟨gb, 0, none⟩ = some (.int .i64 a) ∧ w'.cell? ⟨gb, 1, none⟩ = some (.int .i64 b) ∧ w'.cell? ⟨ge, 0, none⟩ = some (.int .i64 e)) (by kernel_rfl) ⟨p0, p1, hc1⟩ (fun hHeld => ?_)
  refine wpAnyH_take (i := 0) (oi := ⟨some 4, _, _, _, _, none⟩) (v := ?_) rfl (by kernel_rfl) (by kernel_rfl) (by kernel_rfl) (fun _ _ _ h => h) (Or.inl ⟨by rfl, ?_⟩) (by assumption) ?_
  case refine_2 => (intro wx hSx; (try dsimp only at hSx); go_simp; first | done | with_reducible rfl)
  try simp only [Act.put, List.setIfInBounds_toArray, List.set_cons_zero, List.set_cons_succ]
  refine wpAnyH_take (i := 2) (oi := ⟨some 6, _, _, _, _, none⟩) (v := ?_) rfl (by kernel_rfl) (by kernel_rfl) (by kernel_rfl) (fun _ _ _ h => h) (Or.inl ⟨by rfl, ?_⟩) (by assumption) ?_
  case refine_2 => (intro wx hSx; (try dsimp only at hSx); go_simp; first | done | with_reducible rfl)
  try simp only [Act.put, List.setIfInBounds_toArray, List.set_cons_zero, List.set_cons_succ]
  refine wpAnyH_ready (rs := [1]) (by kernel_rfl) (by simp) ?_
  refine AllReadyH.cons rfl (fun K hK => ?_) AllReadyH.nil
  go_simp
  have hTd : Tab W1.drew := T1.out
  refine (HK.out _ hTd).mono ?_
  rintro e' w3 ⟨rfl, g3⟩
  have G3 : Hid (Below W1.heap.size W1 w3) := Lib.hid (undrew g3)
  clear g3
  have SS := row2 (R1.out.under G3.out)
  have SC := (G3.out.cell (p := ⟨ge, 0, none⟩) hs1).trans hc1
  go_wp2_with fail
  refine hK.out _ _ ⟨SS.1, SS.2, SC⟩ (fun hHeld2 => ?_)
  clear hK K hHeld SS SC
  try simp only [Act.put, List.setIfInBounds_toArray, List.set_cons_zero, List.set_cons_succ]
  refine wpAnyH_take (i := 3) (oi := ⟨some 7, _, _, _, _, none⟩) (v := ?_) rfl (by kernel_rfl) (by kernel_rfl) (by kernel_rfl) (fun _ _ _ h => h) (Or.inl ⟨by rfl, ?_⟩) (by assumption) ?_
  case refine_2 => (intro wx hSx; (try dsimp only at hSx); go_simp; first | done | with_reducible rfl)
  try simp only [Act.put, List.setIfInBounds_toArray, List.set_cons_zero, List.set_cons_succ]
  refine wpAnyH_take (i := 4) (oi := ⟨some 3, _, _, _, _, none⟩) (v := ?_) rfl (by kernel_rfl) (by kernel_rfl) (by kernel_rfl) (fun _ _ _ h => h) (Or.inl ⟨by rfl, ?_⟩) (by assumption) ?_
  case refine_2 => (intro wx hSx; (try dsimp only at hSx); go_simp; first | done | with_reducible rfl)
  try simp only [Act.put, List.setIfInBounds_toArray, List.set_cons_zero, List.set_cons_succ]
  refine wpAnyH_done (by kernel_rfl) ?_ _
  go_wp2_with fail
  go_ret
  exact ⟨rfl, HB.out.trans (G3.out.mono HB.out.size)⟩
theorem agg47 : ∀ w, (isAgg 81).run Tryd.prog w = .ok true w := Tryd.isAgg81
theorem size47 : ∀ w, (Go.sizeOf 81).run Tryd.prog w = .ok 2 w := Tryd.sizeOf81
set_option maxHeartbeats 1000000 in
theorem index_nil (A : Option Addr) (cap g : Nat) (lb : Array Value) (w : World) :
    Calls Tryd.prog 103 #[.slice A 0 cap, .func (.func g) #[] lb] w fun e w' => e = .returned (.int .i64 (-1)) ∧ w = w' := by
  go_enter Tryd.func103, Tryd.ntmps103
  go_wp2_with fail
  go_loop [5, 8] (fun _ t => t = .int .i64 0) (fun _ _ => 0)
  case atStart => rfl
  case round =>
    subst hrel
    go_wp2_with fail
    go_ret
    exact ⟨rfl, rfl⟩
theorem least {L : List Elt.R} (p : Elt.R → Bool) : (∀ j (h : j < L.length), p L[j] = false) ∨ ∃ k, ∃ h : k < L.length, p L[k] = true ∧ ∀ j (hj : j < L.length), j < k → p L[j] = false := by
  induction L with
  | nil => exact .inl (fun j h => by simp at h)
  | cons x r ih =>
    by_cases hx : p x = true
    · exact .inr ⟨0, by simp, hx, fun j _ h => by omega⟩
    · have hx' : p x = false := by simpa using hx
      rcases ih with h | ⟨k, hk, h1, h2⟩
      · refine .inl (fun j hj => ?_)
        cases j with
        | zero => exact hx'
        | succ j => exact h j (by simpa using hj)
      · refine .inr ⟨k + 1, by simpa using hk, h1, fun j hj hlt => ?_⟩
        cases j with
        | zero => exact hx'
        | succ j => exact h2 j (by simpa using hj) (by omega)
theorem getE {L : List Elt.R} {j : Nat} (h : j < L.length) : L[j]! = L[j] := by
  rw [List.getElem!_eq_getElem?_getD, List.getElem?_eq_getElem h]; rfl
theorem encR_len (x : Elt.R) : (encR x).length = 2 := rfl
theorem enc_cells {w : World} {g off : Nat} {L : List Elt.R} (hc : ∀ i (h : i < L.length), w.cell? ⟨g, off + i * 2, none⟩ = some (.int .i64 (L[i]).1) ∧ w.cell? ⟨g, off + i * 2 + 1, none⟩ = some (.int .i64 (L[i]).2)) :
    ∀ j, j < L.length → ∀ i v, (encR L[j]!)[i]? = some v → w.cell? ⟨g, off + j * 2 + i, none⟩ = some v := by
  intro j hj i v hv
  rw [getE hj] at hv
  obtain ⟨c0, c1⟩ := hc j hj
  match i, hv with
  | 0, hv => simp [encR] at hv; rw [← hv]; exact c0
  | 1, hv => simp [encR] at hv; rw [← hv]; exact c1
  | i + 2, hv => simp [encR] at hv
theorem containsFunc_any (v : Value) (L : List Elt.R) (e : Int) (ge : Nat) (w : World) (hL : RdIn w v L) (hT : Tab w) (hg : ge < w.heap.size) (hcell : w.cell? ⟨ge, 0, none⟩ = some (.int .i64 e)) :
    Calls Tryd.prog 97 #[v, .func (.func 98) #[] #[.pointer (some ⟨ge, 0, none⟩)]] w fun e' w' => e' = .returned (.bool (L.any fun r => Elt.chk r.1 r.2 == e)) ∧ Below w.heap.size w w' := by
  by_cases hp : 0 < L.length
  · obtain ⟨g, off, cap, rfl, h1, h2, hgl, hc⟩ := hL.one hp
    have eg : ∀ args w, (callFunc 98 args).run Tryd.prog w = .ok (.enter 98 args) w := enters_of Tryd.func98 (by kernel_rfl) rfl
    have := AnyQ.slices_ContainsFunc Tryd.lCon 2 agg47 size47 encR encR_len (fun r => Elt.chk r.1 r.2 == e) 98 #[.pointer (some ⟨ge, 0, none⟩)] eg g off L.length cap L w (pred_check e ge w hT hg hcell) (Nat.le_refl _) (by omega) hgl (enc_cells hc)
    rw [List.take_length] at this
    exact this
  · obtain rfl : L = [] := List.eq_nil_of_length_eq_zero (by omega)
    obtain ⟨A, cap, rfl, -⟩ := hL
    clear hT hg hcell
    show Calls Tryd.prog 97 #[.slice A 0 cap, .func (.func 98) #[] #[.pointer (some ⟨ge, 0, none⟩)]] w _
    go_enter Tryd.func97, Tryd.ntmps97
    go_wp2_with fail
    refine (index_nil _ _ _ _ _).mono ?_
    rintro e' w1 ⟨rfl, rfl⟩
    go_wp2_with fail
    go_ret
    exact ⟨rfl, Below.refl _ _⟩
end Go.Proofs.YtlakgkoohdfiaaaDoor.El


namespace Go.Proofs.YtlakgkoohdfiaaaDoor.El
open Go.RowKit

theorem any_chk {L : List Elt.R} {e : Int} : (L.any fun r => Elt.chk r.1 r.2 == e) = true ↔ ∃ r ∈ L, Elt.chk r.1 r.2 = e := by
  rw [List.any_eq_true]
  exact ⟨fun ⟨r, h, he⟩ => ⟨r, h, beq_iff_eq.1 he⟩, fun ⟨r, h, he⟩ => ⟨r, h, beq_iff_eq.2 he⟩⟩
set_option maxRecDepth 100000 in
set_option maxHeartbeats 2000000 in
theorem validate_any (v : Value) (L : List Elt.R) (w : World) (hL : RdIn w v L) (hT : Tab w) :
    Calls Tryd.prog 66 #[v] w fun e w' => e = .returned (.int .i64 (Elt.vld L)) ∧ Below w.heap.size w w' := by
  obtain ⟨z, hz⟩ : ∃ z, Elt.vld L = z := ⟨_, rfl⟩
  rw [hz]
  have HZ := Lib.hid hz; clear hz
  have HL := Lib.hid hL
  have HT := Lib.hid hT
  obtain ⟨A, cap, rfl, h1, h2, -⟩ := hL
  clear hT
  have j0 : ∀ w, (Instr.index 96 (.agg #[.int .i64 4, .int .i64 1]) (.int .i64 0)).run Tryd.prog w = .ok (.int .i64 4) w := fun _ => by kernel_rfl
  have j1 : ∀ w, (Instr.index 96 (.agg #[.int .i64 4, .int .i64 1]) (.int .i64 1)).run Tryd.prog w = .ok (.int .i64 1) w := fun _ => by kernel_rfl
  go_enter Tryd.func66, Tryd.ntmps66
  go_wp2_with fail
  go_loopw [7] (fun t wr => Below w.heap.size w wr ∧ (t = .int .i64 0 ∨ (t = .int .i64 1 ∧ Hid (¬ ∃ r ∈ L, Elt.chk r.1 r.2 = 4)) ∨ (t = .int .i64 2 ∧ Hid (¬ ∃ r ∈ L, Elt.chk r.1 r.2 = 4) ∧ Hid (¬ ∃ r ∈ L, Elt.chk r.1 r.2 = 1)))) (fun t _ => 2 - (intOf t).toNat)
  case atStart => exact ⟨Below.refl _ _, .inl rfl⟩
  case round =>
    obtain ⟨hb, hr⟩ := hrel
    have HB := Lib.hid hb; clear hb
    rcases hr with rfl | ⟨rfl, hn⟩ | ⟨rfl, hn, hm⟩
    · have b1 := HB.out.alloc HB.out.size (.cells #[.int .i64 4] 43)
      have r1 := Row.new wr #[.int .i64 4] 43
      go_upto_region 4 with fail
      generalize wr.alloc (.cells #[.int .i64 4] 43) = W1 at *
      generalize wr.heap.size = ge at *
      have c1 : W1.cell? ⟨ge, 0, none⟩ = some (.int .i64 4) := (r1.cell 0).trans rfl
      have HC := Lib.hid (containsFunc_any _ L 4 ge W1 (HL.out.under b1) (HT.out.under b1) r1.lt c1)
      have B1 := Lib.hid b1
      have R1 := Lib.hid r1
      clear b1 r1 c1
      cases ha : (L.any fun r => Elt.chk r.1 r.2 == 4) with
      | true =>
        rw [ha] at HC
        have HV : Hid (z = 4) := Lib.hid (by rw [← HZ.out, Elt.vld_kind (any_chk.1 ha)])
        clear ha
        go_wp2_with fail
        refine HC.out.mono ?_
        rintro e w2 ⟨rfl, g2⟩
        have c2 : w2.cell? ⟨ge, 0, none⟩ = some (.int .i64 4) := ((R1.out.under g2).cell 0).trans rfl
        have B2 := Lib.hid (B1.out.trans (g2.mono B1.out.size)); clear g2
        go_wp2_with fail
        go_ret
        exact ⟨ret_i64 HV.out.symm, B2.out⟩
      | false =>
        rw [ha] at HC
        have HN : Hid (¬ ∃ r ∈ L, Elt.chk r.1 r.2 = 4) := Lib.hid (fun h => by rw [any_chk.2 h] at ha; cases ha)
        clear ha
        go_wp2_with fail
        refine HC.out.mono ?_
        rintro e w2 ⟨rfl, g2⟩
        have B2 := Lib.hid (B1.out.trans (g2.mono B1.out.size)); clear g2
        go_wp2_with fail
        go_roundw
        case rel => exact ⟨B2.out, .inr (.inl ⟨rfl, HN⟩)⟩
        case measure => simp [intOf]
    · have b1 := HB.out.alloc HB.out.size (.cells #[.int .i64 1] 43)
      have r1 := Row.new wr #[.int .i64 1] 43
      go_upto_region 4 with fail
      generalize wr.alloc (.cells #[.int .i64 1] 43) = W1 at *
      generalize wr.heap.size = ge at *
      have c1 : W1.cell? ⟨ge, 0, none⟩ = some (.int .i64 1) := (r1.cell 0).trans rfl
      have HC := Lib.hid (containsFunc_any _ L 1 ge W1 (HL.out.under b1) (HT.out.under b1) r1.lt c1)
      have B1 := Lib.hid b1
      have R1 := Lib.hid r1
      clear b1 r1 c1
      cases ha : (L.any fun r => Elt.chk r.1 r.2 == 1) with
      | true =>
        rw [ha] at HC
        have HV : Hid (z = 1) := Lib.hid (by rw [← HZ.out, Elt.vld_range hn.out (any_chk.1 ha)])
        clear ha
        go_wp2_with fail
        refine HC.out.mono ?_
        rintro e w2 ⟨rfl, g2⟩
        have c2 : w2.cell? ⟨ge, 0, none⟩ = some (.int .i64 1) := ((R1.out.under g2).cell 0).trans rfl
        have B2 := Lib.hid (B1.out.trans (g2.mono B1.out.size)); clear g2
        go_wp2_with fail
        go_ret
        exact ⟨ret_i64 HV.out.symm, B2.out⟩
      | false =>
        rw [ha] at HC
        have HN : Hid (¬ ∃ r ∈ L, Elt.chk r.1 r.2 = 1) := Lib.hid (fun h => by rw [any_chk.2 h] at ha; cases ha)
        clear ha
        go_wp2_with fail
        refine HC.out.mono ?_
        rintro e w2 ⟨rfl, g2⟩
        have B2 := Lib.hid (B1.out.trans (g2.mono B1.out.size)); clear g2
        go_wp2_with fail
        go_roundw
        case rel => exact ⟨B2.out, .inr (.inr ⟨rfl, hn, HN⟩)⟩
        case measure => simp [intOf]
    · have HV := Lib.hid (Elt.vld_sort hn.out hm.out)
      clear hn hm j0 j1
      go_wp2_with fail
      go_loopw [5] (fun t w' => ∃ m : Nat, t = .int .i64 ((m : Int) + 1) ∧ m ≤ L.length ∧ Below w.heap.size w w' ∧ Hid (∀ j, ∀ h : j + 1 < L.length, j < m → (L[j]).1 < (L[j + 1]).1)) (fun t _ => L.length + 2 - (intOf t).toNat)
      case atStart => exact ⟨0, rfl, Nat.zero_le _, HB.out, Lib.hid (fun j h h' => by omega)⟩
      case round =>
        clear HB
        obtain ⟨m, rfl, hml, hb, ha⟩ := hrel
        by_cases hlt : m + 1 < L.length
        · have hR := HL.out.under hb
          obtain ⟨A', cap', e, -, -, hR⟩ := hR
          injection e with e1 e2 e3
          subst e1
          obtain ⟨g, off, rfl, -, c0, c1⟩ := hR m (by omega)
          obtain ⟨g', off', e, -, d0, d1⟩ := hR (m + 1) hlt
          injection e with e
          injection e with e1 e2
          subst e1; subst e2
          have HB := Lib.hid hb; clear hb hR e3
          have k0 : (0 : Int) ≤ (m : Int) := by omega
          have k1 : (m : Int) < (L.length : Int) := by omega
          have k2 : (m : Int) + 1 < (L.length : Int) := by omega
          have k3 : (0 : Int) ≤ (m : Int) + 1 := by omega
          have x1 : IntKind.i64.wrap (m : Int) = (m : Int) := IntWalk.i64_in _ (by omega)
          by_cases hc : (L[m]).1 < (L[m + 1]).1
          · have HA : Hid (∀ j, ∀ h : j + 1 < L.length, j < m + 1 → (L[j]).1 < (L[j + 1]).1) := Lib.hid (fun j h h' => by
              rcases Nat.lt_or_ge j m with q | q
              · exact ha.out j h q
              · obtain rfl : j = m := by omega
                exact hc)
            clear ha
            generalize L[m] = x at *
            generalize L[m + 1] = y at *
            have hc' : ¬ y.1 ≤ x.1 := by omega
            clear hc
            go_wp2_with fail
            go_quiet (fail)
            go_wp2_with fail
            go_roundw
            case rel => exact ⟨m + 1, by go_num, by omega, by first | exact HB.out | exact below_drewN HB.out _, HA⟩
            case measure => simp [intOf]; omega
          · have HV8 : Hid (z = 8) := Lib.hid (by rw [← HZ.out]; exact HV.out.2 (fun h => hc (h m hlt)))
            clear ha
            generalize L[m] = x at *
            generalize L[m + 1] = y at *
            have hc' : y.1 ≤ x.1 := by omega
            clear hc
            go_wp2_with fail
            go_quiet (fail)
            go_wp2_with fail
            go_ret
            exact ⟨ret_i64 HV8.out.symm, by first | exact HB.out | exact below_drewN HB.out _⟩
        · have HV0 : Hid (z = 0) := Lib.hid (by rw [← HZ.out]; exact HV.out.1 (fun j h => ha.out j h (by omega)))
          have k2 : ¬ (m : Int) + 1 < (L.length : Int) := by omega
          have HB := Lib.hid hb; clear hb ha
          go_wp2_with fail
          go_ret
          exact ⟨ret_i64 HV0.out.symm, HB.out⟩
/-- What Find answers. -/
def FndR (w : World) (L : List Elt.R) (c : Int) (e : Ending) (w' : World) : Prop := e = .returned (.tuple #[.int .i64 ((Elt.fnd L c).getD 0), .bool (Elt.fnd L c).isSome]) ∧ Below w.heap.size w w'
end Go.Proofs.YtlakgkoohdfiaaaDoor.El


namespace Go.Proofs.YtlakgkoohdfiaaaDoor.El
open Go.RowKit

theorem infoReading : (Tryd.prog.info? 81).map (fun i => (i.zero, i.size, i.bytes)) = some (some (.agg #[.int .i64 0, .int .i64 0]), 2, 16) := by kernel_rfl
/-- What is known while the list is gone through. -/
structure Wt (W : World) (M : List Elt.R) (u : Value) (w : World) : Prop where
  below : Below W.heap.size W w
  own : w.ownsRow W.heap.size 81 2 u M.length (rdc M)
theorem Wt.under {W w w' : World} {M : List Elt.R} {u : Value} (h : Wt W M u w) (hb : Below w.heap.size w w') : Wt W M u w' := ⟨h.below.trans (hb.mono h.below.size), own_under h.own hb⟩
theorem Wt.more {W w w' : World} {M : List Elt.R} {u : Value} {g' cap' : Nat} {x : Elt.R} (h : Wt W M u w)
    (hown : w'.ownsRow W.heap.size 81 2 (.slice (some ⟨g', 0, none⟩) (M.length + 1) cap') (M.length + 1) (rdc M ++ [.int .i64 x.1, .int .i64 x.2])) (hg : w.grownBy w' u.ownBlock) : Wt W (M ++ [x]) (.slice (some ⟨g', 0, none⟩) (M.length + 1) cap') w' :=
  ⟨below_own h.below h.below.size h.own hg, by rw [rdc_snoc]; simpa using hown⟩
theorem wout_snoc (L : List Elt.R) (C : List Int) (k : Nat) (h : k < L.length) : Elt.wout (L.take (k + 1)) C = Elt.wout (L.take k) C ++ (if C.contains (L[k]).1 then [] else [L[k]]) := by
  unfold Elt.wout
  rw [List.take_succ_eq_append_getElem h, List.filter_append]
  congr 1
  cases hc : C.contains (L[k]).1 <;> (rw [List.filter_cons, List.filter_nil]; simp only [hc]; rfl)
theorem wout_len (L : List Elt.R) (C : List Int) (k : Nat) : (Elt.wout (L.take k) C).length ≤ L.length := by
  unfold Elt.wout
  have h1 := List.length_filter_le (fun r : Elt.R => !C.contains r.1) (L.take k)
  have h2 : (L.take k).length ≤ L.length := by rw [List.length_take]; omega
  omega
end Go.Proofs.YtlakgkoohdfiaaaDoor.El


namespace Go.Proofs.YtlakgkoohdfiaaaDoor.El
open Go.RowKit
theorem fnd_here {L : List Elt.R} {c : Int} {k : Nat} (h : k < L.length) (hn : ∀ j (h : j < L.length), j < k → (L[j]).1 ≠ c) (he : (L[k]).1 = c) : Elt.fnd L c = some (L[k]).2 := by
  have q : L.find? (fun r => r.1 == c) = some L[k] := List.find?_eq_some_iff_getElem.2 ⟨beq_iff_eq.2 he, k, h, rfl, fun j hj => by
    have := hn j (by omega) hj
    simpa using this⟩
  unfold Elt.fnd
  rw [q]
  rfl
theorem fnd_none {L : List Elt.R} {c : Int} (hn : ∀ j (h : j < L.length), (L[j]).1 ≠ c) : Elt.fnd L c = none := by
  have q : L.find? (fun r => r.1 == c) = none := List.find?_eq_none.2 (fun r hr => by
    obtain ⟨j, hj, rfl⟩ := List.getElem_of_mem hr
    simpa using hn j hj)
  unfold Elt.fnd
  rw [q]
  rfl
set_option maxHeartbeats 1000000 in
theorem refFind_any (v : Value) (L : List Elt.R) (c : Int) (w : World) (hL : RdIn w v L) :
    Calls Tryd.prog 47 #[v, .int .i64 c] w (FndR w L c) := by
  obtain ⟨A, cap, rfl, h1, h2, h3⟩ := hL
  have H := Lib.hid h3; clear h3
  go_enter Tryd.func47, Tryd.ntmps47
  go_wp2_with fail
  go_loop [6] (fun t => ∃ k : Nat, k ≤ L.length ∧ t = .int .i64 k ∧ Hid (∀ j (h : j < L.length), j < k → (L[j]).1 ≠ c)) (fun t => L.length - (intOf t).toNat)
  case atStart => exact ⟨0, Nat.zero_le _, rfl, Lib.hid (fun j h h' => by omega)⟩
  case round =>
    obtain ⟨k, hk, rfl, hn⟩ := hrel
    by_cases hlt : k < L.length
    · obtain ⟨g, off, rfl, -, c0, c1⟩ := H.out k hlt
      have k0 : (0 : Int) ≤ (k : Int) := by omega
      have k1 : (k : Int) < (L.length : Int) := by omega
      by_cases he : (L[k]).1 = c
      · have HF := Lib.hid (fnd_here hlt hn.out he)
        have e1 : ((L[k]).1 == c) = true := beq_iff_eq.2 he
        clear he hn
        generalize L[k] = y at *
        go_wp2_with fail
        go_ret2
        exact ⟨by rw [HF.out]; rfl, Below.refl _ _⟩
      · have e1 : ((L[k]).1 == c) = false := beq_eq_false_iff_ne.2 he
        have HN : Hid (∀ j (h : j < L.length), j < k + 1 → (L[j]).1 ≠ c) := Lib.hid (fun j h h' => by
          rcases Nat.lt_or_ge j k with q | q
          · exact hn.out j h q
          · obtain rfl : j = k := by omega
            exact he)
        clear he hn
        generalize L[k] = y at *
        go_wp2_with fail
        go_round
        case rel => exact ⟨k + 1, by omega, by go_num, HN⟩
        case measure => simp [intOf]; omega
    · have k1 : ¬ (k : Int) < (L.length : Int) := by omega
      have HF := Lib.hid (fnd_none (fun j h => hn.out j h (by omega)))
      go_wp2_with fail
      go_ret2
      exact ⟨by rw [HF.out]; rfl, Below.refl _ _⟩
end Go.Proofs.YtlakgkoohdfiaaaDoor.El

