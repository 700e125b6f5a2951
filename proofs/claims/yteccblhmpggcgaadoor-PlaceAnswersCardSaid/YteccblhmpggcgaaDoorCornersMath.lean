/- What PlaceCorners gathers: the faces at a vertex, their texts, the vertex's normal place. -/
import Derived.Test.YteccblhmpggcgaaDoorAwake
import Derived.Test.YteccblhmpggcgaaDoorSrc
namespace Go.Proofs.YteccblhmpggcgaaDoor
open Go.RowKit

/-- The weight at corner k of the face g, all of it at the vertex v. -/
def ind (g k v : Nat) : Int := if Ico.cor g k = v then 840 else 0
theorem ind_vld {g v : Nat} (hg : g < 20) (h : Ico.has g v = true) : Ico.Vld g (ind g 0 v) (ind g 1 v) (ind g 2 v) := by
  obtain ⟨h1, h2, h3⟩ := Ico.cor_ne g hg
  unfold Ico.has at h
  simp only [Bool.or_eq_true, decide_eq_true_eq] at h
  unfold Ico.Vld ind
  rcases h with (rfl | rfl) | rfl
  · rw [if_pos rfl, if_neg (Ne.symm h1), if_neg (Ne.symm h3)]; omega
  · rw [if_neg h1, if_pos rfl, if_neg (Ne.symm h2)]; omega
  · rw [if_neg h3, if_neg h2, if_pos rfl]; omega
theorem ind_wt {g v : Nat} (hg : g < 20) (h : Ico.has g v = true) (u : Nat) : Ico.wt g (ind g 0 v) (ind g 1 v) (ind g 2 v) u = if u = v then 840 else 0 := by
  obtain ⟨h1, h2, h3⟩ := Ico.cor_ne g hg
  rw [Ico.wt_sum hg]
  unfold Ico.has at h
  simp only [Bool.or_eq_true, decide_eq_true_eq] at h
  unfold ind
  rcases h with (rfl | rfl) | rfl
  · rw [if_pos rfl, if_neg (Ne.symm h1), if_neg (Ne.symm h3)]; simp
  · rw [if_neg h1, if_pos rfl, if_neg (Ne.symm h2)]; simp
  · rw [if_neg h3, if_neg h2, if_pos rfl]; simp
/-- The vertex's own normal place: out of its first face. -/
def vf (v : Nat) : Nat := ((List.range 20).filter fun g => Ico.has g v).headD 0
theorem vf_ok : ∀ v, v < 12 → vf v < 20 ∧ Ico.has (vf v) v = true := by decide +kernel
def Vn (v : Nat) : Nat := Ico.nf (vf v) (ind (vf v) 0 v) (ind (vf v) 1 v) (ind (vf v) 2 v)
def Vw (v k : Nat) : Int := nw (vf v) (ind (vf v) 0 v) (ind (vf v) 1 v) (ind (vf v) 2 v) k
theorem normal_ind {g v : Nat} (hg : g < 20) (hv : v < 12) (h : Ico.has g v = true) :
    Ico.nf g (ind g 0 v) (ind g 1 v) (ind g 2 v) = Vn v ∧ ∀ k, nw g (ind g 0 v) (ind g 1 v) (ind g 2 v) k = Vw v k := by
  obtain ⟨k1, k2⟩ := vf_ok v hv
  have hs : ∀ u, Ico.wt g (ind g 0 v) (ind g 1 v) (ind g 2 v) u = Ico.wt (vf v) (ind (vf v) 0 v) (ind (vf v) 1 v) (ind (vf v) 2 v) u := fun u => by rw [ind_wt hg h, ind_wt k1 k2]
  have hn := Ico.nf_same hs
  refine ⟨hn, fun k => ?_⟩
  unfold nw Vw nw
  rw [hn, hs]
/-- The text of the vertex v as the face g writes it. -/
def tx (v g : Nat) : ByteArray := S (txt g (ind g 0 v) (ind g 1 v))
theorem b10_inj {x y : Int} (h0 : 0 ≤ x) (h1 : x ≤ 9) (k0 : 0 ≤ y) (k1 : y ≤ 9) (h : b10 x = b10 y) : x = y := by
  unfold b10 at h
  have := congrArg UInt8.toNat h
  simp only [UInt8.toNat_ofNat'] at this
  omega
theorem S_inj {a b : List UInt8} (h : S a = S b) : a = b := by rw [← S_list a, ← S_list b, h]
theorem tx_inj {v g h : Nat} (hg : g < 20) (hh : h < 20) (e : tx v g = tx v h) : g = h := by
  have e := S_inj e
  have e1 : dig2 (g : Int) = dig2 (h : Int) := congrArg (List.take 2) e
  unfold dig2 at e1
  injection e1 with a b
  injection b with b _
  have a := b10_inj (by omega) (by omega) (by omega) (by omega) a
  have b := b10_inj (by omega) (by omega) (by omega) (by omega) b
  omega
theorem toList_ne {a b : ByteArray} (h : a ≠ b) : (a.toList == b.toList) = false := by
  rw [ByteArray.toList_eq, ByteArray.toList_eq, beq_eq_false_iff_ne]
  exact fun e => h (WideShapes.bytes_inj e)
theorem tx_ne {v g h : Nat} (hg : g < 20) (hh : h < 20) (e : g ≠ h) : ((tx v g).toList == (tx v h).toList) = false := toList_ne fun k => e (tx_inj hg hh k)
/-- The faces at v below n; and with the first k corners of n. -/
def fl (v n : Nat) : List Nat := (List.range n).filter fun g => Ico.has g v
def hk (n v : Nat) : Nat → Bool
  | 0 => false
  | k + 1 => hk n v k || decide (Ico.cor n k = v)
def fk (v n k : Nat) : List Nat := fl v n ++ if hk n v k then [n] else []
theorem hk3 (n v : Nat) : hk n v 3 = Ico.has n v := by
  unfold hk hk hk hk Ico.has
  rw [Bool.eq_iff_iff]; simp only [Bool.or_eq_true, decide_eq_true_eq, Bool.false_eq_true, false_or]
  constructor <;> rintro ((h | h) | h) <;> simp [h]
theorem fk0 (v n : Nat) : fk v n 0 = fl v n := by unfold fk hk; simp
theorem fk3 (v n : Nat) : fk v n 3 = fl v (n + 1) := by
  unfold fk fl; rw [hk3, List.range_succ, List.filter_append]
  cases h : Ico.has n v <;> simp [h]
theorem fk_no {v n k : Nat} (h : Ico.cor n k ≠ v) : fk v n (k + 1) = fk v n k := by unfold fk; rw [hk]; simp [h]
theorem hk_other : ∀ n, n < 20 → ∀ k, k < 3 → hk n (Ico.cor n k) k = false := by decide +kernel
theorem fk_yes {v n k : Nat} (hn : n < 20) (h3 : k < 3) (h : Ico.cor n k = v) : fk v n k = fl v n ∧ fk v n (k + 1) = fl v n ++ [n] := by
  have := hk_other n hn k h3
  rw [h] at this
  unfold fk; rw [hk, this]; simp [h]
theorem has_cor {n k v : Nat} (h3 : k < 3) (h : Ico.cor n k = v) : Ico.has n v = true := by
  have : k = 0 ∨ k = 1 ∨ k = 2 := by omega
  unfold Ico.has
  rcases this with rfl | rfl | rfl <;> simp [h]
theorem fl_lt {v n g : Nat} (h : g ∈ fl v n) : g < n := List.mem_range.1 (List.mem_filter.1 h).1
theorem fl_len : ∀ v, v < 12 → (fl v 20).length = 5 := by decide +kernel
theorem fl_len_le (v n : Nat) : (fl v n).length ≤ n := by unfold fl; exact Nat.le_trans (List.length_filter_le _ _) (by simp)
end Go.Proofs.YteccblhmpggcgaaDoor
