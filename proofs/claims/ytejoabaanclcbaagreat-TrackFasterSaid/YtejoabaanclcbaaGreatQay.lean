/- Texts of this proof. -/
import Derived.Test.YtejoabaanclcbaaGreatTkP
import Derived.Test.YtejoabaanclcbaaGreatQam
import Derived.Test.YtejoabaanclcbaaGreatLks
import Derived.Shelf.SortM.SortNone
namespace Go.Proofs.YtejoabaanclcbaaGreat.Tk
open Go.RowKit Go.Maps

/-- An entry that comes out of the range is what stands at its name. -/
theorem at_held {D : DataW Value} {f : ByteArray → Option Value} {x : ByteArray} {c : Value} {kl : Lit} {y : DataW Value × List MemPlace} (hD : ∀ k, Maps.has D (nk k) = (f k).isSome ∧ ∀ z, D.atKey (nk k) (.held z) = .held ((f k).getD z))
    (hk : keyOf Tryz.prog 9 (.string x) = some kl) (hy : MnR c = some y) (hat : ∀ zd, D.atKey kl zd = y.1) : f x = some c ∧ kl = nk x := by
  obtain ⟨k, e, rfl, -⟩ := nk_inv hk
  injection e with e
  subst e
  have h1 : y.1 = .held c := by
    have := Option.some.inj hy
    rw [← this]
  refine ⟨?_, rfl⟩
  have h2 : ∀ z, (f x).getD z = c := fun z => by
    have h3 := hat (.held z)
    rw [(hD x).2 z, h1] at h3
    exact DataW.held.inj h3
  cases hf : f x with
  | some v => have := h2 (.bool true); rw [hf] at this; exact congrArg some this
  | none =>
    have e1 := h2 (.bool true)
    have e2 := h2 (.bool false)
    rw [hf] at e1 e2
    rw [← e1] at e2
    cases e2
/-- What check says. -/
def ChkO (L : List Sg) (w : World) (e : Ending) (w' : World) : Prop :=
  (∃ c : Int, e = .returned (.int .i64 c) ∧ ((c = 5 ∧ ∃ k, ¬ ascP (gr L k)) ∨ (c = 0 ∧ ∀ k, ascP (gr L k)))) ∧ Below w.heap.size w w'
theorem gr_le (L : List Sg) (k : ByteArray) : (gr L k).length ≤ L.length := List.length_filter_le _ _
theorem asc_nil : ascP [] := fun i h => absurd h (by simp)
/-- The groups that have come out ascend. -/
def donR (L : List Sg) (left : Lit → Bool) : Prop := ∀ k, left (nk k) = false → ascP (gr L k)
set_option maxRecDepth 100000 in
set_option maxHeartbeats 8000000 in
theorem check_any (w0 : World) (b : Nat) (f : ByteArray → Option Value) (L : List Sg) (w : World) (hl : L.length ≤ 12) (hg : Gp w0 L b f w) :
    Calls Tryz.prog 41 #[.map (some b)] w (ChkO L w) := by
  have HG := Lib.hid hg; clear hg
  obtain ⟨D, hown, hD⟩ := HG.out.map
  have HDD := Lib.hid hD; clear hD
  have HHAS := Lib.hid (show donR L (Maps.has D) from fun k hk => by
    rw [(HDD.out k).1] at hk
    have h0 : f k = none := by cases h : f k with
      | none => rfl
      | some v => rw [h] at hk; cases hk
    rw [HG.out.nil k h0]
    exact asc_nil)
  go_enter Tryz.func41, Tryz.ntmps41
  go_wp2_with (at_range; refine wpList_range_own _ rfl _ 70 rfl 9 63 lawS Tryz.underlying70 MnR b L.length D rfl hown ?_; intro w1 hrg hgr hsz)
  go_frame
  have HB1 := Lib.hid ((Below.refl _ w).grown hgr (Nat.le_refl _) (by simp))
  have HR1 := Lib.hid hrg
  clear hrg hgr hsz hown
  go_loopw [3] (fun t wr => ∃ (left : Lit → Bool) (cnt : Nat) (m : Int), Hid (wr.ranges Tryz.prog 9 MnR b w.heap.size L.length D left cnt) ∧ t = .int .i64 m ∧ 0 ≤ m ∧ m ≤ 12 ∧ Hid (donR L left) ∧ Hid (Below w.heap.size w wr)) (fun _ wr => wr.rangeLeft b w.heap.size)
  case atStart => exact ⟨_, _, 0, HR1, rfl, by omega, by omega, HHAS, HB1⟩
  case round =>
    obtain ⟨left, cnt, m, HR, rfl, hm0, hm1, HDN, HB⟩ := hrel
    clear HR1 HB1
    go_wp2_with (at_next; refine wpList_next_ranges _ rfl _ rfl 9 lawS MnR Value.string (fun v : Value => v) (fun key kl h => by obtain ⟨k, e, -⟩ := nk_inv h; exact ⟨k, e⟩) (fun v y _ => ⟨v, rfl⟩) b w.heap.size L.length D left cnt rfl HR.out ?_ ?_)
    · intro _ hl0
      have HALL := Lib.hid (show ∀ k, ascP (gr L k) from fun k => HDN.out k (hl0 _))
      clear hl0
      have k30 : ¬ (30 : Int) < m := by omega
      go_wp2_with fail
      go_ret
      exact ⟨⟨0, rfl, .inr ⟨rfl, HALL.out⟩⟩, HB.out⟩
    · intro x c kl y y2 w1 cnt1 hkey hlx hy hat hrg1 hlt hg1 hs1 hen
      obtain ⟨hfx, rfl⟩ := at_held HDD.out hkey hy hat
      have hB1 := Lib.hid (show Below w.heap.size w w1 from HB.out.grown hg1 HB.out.size (fun j hj => by cases hj; exact Nat.le_refl _))
      have hrow := (HG.out.rows x c hfx).1
      obtain ⟨A, cap, rfl⟩ := own_form hrow
      have HSI := Lib.hid ((SgIn.own hrow).under hB1.out)
      have HR1 := Lib.hid hrg1
      have HLT := Lib.hid hlt
      have HLE := Lib.hid (gr_le L x)
      have HDN2 := Lib.hid (show ascP (gr L x) → donR L (fun z => left z && !z.sameKey (nk x)) from fun h k hk => by
        by_cases e : k = x
        · rw [e]; exact h
        · have h1 : (nk k).sameKey (nk x) = false := by
            cases h2 : (nk k).sameKey (nk x) with
            | false => rfl
            | true => exact absurd (nk_inj (WideAt.sameKey_eq h2)) e
          refine HDN.out k ?_
          dsimp only at hk
          rw [h1] at hk
          simpa using hk)
      have HNO := Lib.hid (show ¬ ascP (gr L x) → ∃ k, ¬ ascP (gr L k) from fun h => ⟨x, h⟩)
      clear hkey hlx hy hat hrg1 hlt hg1 hs1 hrow hfx HDN HB
      generalize gr L x = G at *
      go_wp2_with fail
      clear hen
      refine (ascending_any _ G w1 HSI.out (by have := HLE.out; omega)).mono ?_
      rintro e w2 ⟨⟨bb, rfl, hbb⟩, hb2⟩
      have HBB := Lib.hid hbb
      have HR2 := Lib.hid (HR1.out.kept (grown_below (r := none) hb2) (by simp) (by simp))
      have HB2 := Lib.hid (hB1.out.trans (hb2.mono hB1.out.size))
      clear hbb hb2 hB1 HR1
      cases bb
      · have HN := Lib.hid (HNO.out (fun h => by have := HBB.out.2 h; cases this))
        go_wp2_with fail
        go_ret
        exact ⟨⟨5, rfl, .inl ⟨rfl, HN.out⟩⟩, HB2.out⟩
      · have HN := Lib.hid (HDN2.out (HBB.out.1 rfl))
        go_wp2_with fail
        go_roundw
        case rel => exact ⟨_, _, _, HR2, rfl, by omega, by have := HLE.out; omega, HN, HB2⟩
        case measure => rw [HR2.out.left_eq, HR.out.left_eq]; exact HLT.out
end Go.Proofs.YtejoabaanclcbaaGreat.Tk


namespace Go.Proofs.YtejoabaanclcbaaGreat.Tk
open Go.RowKit Go.Maps Go.Shelf Go.Sort

theorem inC_any (w : World) (v : Value) (l : List Nat) (b : Nat) (h : IlIn w v l) : Calls Tryz.prog 42 #[v, .int .i64 b] w fun e w' => e = .returned (.bool (decide (b ∈ l))) ∧ w = w' := by
  rcases (by omega : l.length = 0 ∨ 0 < l.length) with h0 | h0
  · obtain ⟨A, c, rfl⟩ := il_form h
    rw [h0]
    obtain rfl : l = [] := List.eq_nil_of_length_eq_zero h0
    refine (Any.slices_Contains_int_empty Tryz.lContains A c b w).mono ?_
    rintro e w' ⟨rfl, rfl⟩
    exact ⟨by simp, rfl⟩
  · obtain ⟨g, c, rfl, -⟩ := il_at h h0
    have hcon := Any.slices_Contains_int Tryz.lContains g 0 l.length c (zs l) b w (by rw [zs_len]; exact Nat.le_refl _) (il_len h) (fun j hj => by
      rw [zs_len] at hj
      obtain ⟨g', c', e, -, -, hc⟩ := il_at h hj
      injection e with e
      injection e with e
      injection e with e
      subst e
      rw [Nat.zero_add, hc, List.getD_eq_getElem?_getD, List.getElem?_eq_getElem (by rw [zs_len]; exact hj)]
      simp [zs])
    rw [contains_zs] at hcon
    refine Calls.mono hcon ?_
    rintro e w' ⟨he, rfl⟩
    exact ⟨he, rfl⟩
/-- Numbers in order. -/
def srtN (l : List Nat) : List Nat := l.mergeSort fun x y => decide (x ≤ y)
theorem srtN_perm (l : List Nat) : (srtN l).Perm l := List.mergeSort_perm _ _
theorem srtN_up (l : List Nat) : (srtN l).Pairwise (fun x y => x ≤ y) :=
  (List.pairwise_mergeSort (le := fun x y : Nat => decide (x ≤ y)) (fun a b c h1 h2 => decide_eq_true (Nat.le_trans (of_decide_eq_true h1) (of_decide_eq_true h2))) (fun a b => by simp only [Bool.or_eq_true, decide_eq_true_eq]; omega) l).imp fun h => of_decide_eq_true h
theorem zs_srt (l : List Nat) : (zs l).mergeSort (fun x y => decide (x ≤ y)) = zs (srtN l) := by
  have hq := (List.mergeSort_perm (zs l) (fun x y => decide (x ≤ y))).trans ((srtN_perm l).symm.map (fun x : Nat => (x : Int)))
  have hs := List.pairwise_mergeSort (le := fun x y : Int => decide (x ≤ y)) (fun a b c h1 h2 => decide_eq_true (Int.le_trans (of_decide_eq_true h1) (of_decide_eq_true h2))) (fun a b => by simp only [Bool.or_eq_true, decide_eq_true_eq]; omega) (zs l)
  refine hq.eq_of_pairwise (le := fun x y : Int => x ≤ y) (fun _ _ _ _ h1 h2 => Int.le_antisymm h1 h2) (hs.imp (fun h => of_decide_eq_true h)) ?_
  unfold zs
  rw [List.pairwise_map]
  exact (srtN_up l).imp fun h => by omega
/-- What the sort of numbers leaves. -/
def SrtO (W : World) (base : Nat) (v : Value) (l : List Nat) (e : Ending) (w : World) : Prop :=
  e = .returned (.tuple #[]) ∧ W.grownBy w v.ownBlock ∧ w.ownsRow base 3 1 v l.length (ic (srtN l))
theorem sortI_any (w : World) (base : Nat) (v : Value) (l : List Nat) (h : w.ownsRow base 3 1 v l.length (ic l)) (hl : l.length ≤ 1000000) : Calls Tryz.prog 43 #[v] w (SrtO w base v l) := by
  rcases h.2 with ⟨rfl, h0⟩ | ⟨g, cap, cur, rfl, hg, hb, hn, hcap, hs, ht⟩
  · obtain rfl : l = [] := List.eq_nil_of_length_eq_zero h0
    refine (AnyM.slices_Sort_int_none Tryz.sortInt none 0 w).mono ?_
    rintro e w' ⟨rfl, rfl⟩
    exact ⟨rfl, ⟨rfl, rfl, rfl, Nat.le_refl _, fun _ _ _ => rfl⟩, by rw [show srtN ([] : List Nat) = [] from by simp [srtN]]; exact h⟩
  · have ht' : cur.toList.take (zs l).length = (zs l).map (Value.int .i64) := by
      rw [zs_len]
      have h9 : (zs l).map (Value.int .i64) = ic l := by simp [zs, ic]
      rw [h9]
      simpa using ht
    have hcon := AnyM.slices_Sort_int Tryz.sortInt g 0 cap (zs l) w (holds_of_blockI hb ht') (Array.getElem?_eq_some_iff.1 hb).1 (by rw [zs_len]; omega)
    rw [zs_len] at hcon
    refine Calls.mono hcon ?_
    rintro e w' ⟨rfl, q, os, rfl⟩
    refine ⟨rfl, grownBy_sortedI _, ?_⟩
    have := ownsRow_sortedI (n := q) (os := os) (base := base) (ss := zs l) (ts := (zs l).mergeSort fun x y => decide (x ≤ y)) (List.length_mergeSort _) hg hb (by rw [zs_len]; exact hn) hcap hs
    rw [zs_len] at this
    have h8 : ic (srtN l) = ((zs l).mergeSort fun x y => decide (x ≤ y)).map (Value.int .i64) := by rw [zs_srt]; simp [zs, ic]
    rw [h8]
    exact this
end Go.Proofs.YtejoabaanclcbaaGreat.Tk

