/- The order of dates, of their texts and of their minutes is one. -/
import Derived.Test.YtaohndjlaamdaaaDoorTexts
import Derived.WalkLawsBesides
namespace Go.Proofs.YtaohndjlaamdaaaDoor
open Go.RowKit

theorem less_same (p s t : List UInt8) : Op.bytesLess (p ++ s) (p ++ t) = Op.bytesLess s t := by
  induction p with
  | nil => rfl
  | cons a p ih => simp [Op.bytesLess, ih]
theorem b10_toNat' {x : Int} (h1 : 0 ≤ x) (h2 : x ≤ 9) : ((b10 x).toNat : Int) = 48 + x := by
  unfold b10
  rw [UInt8.toNat_ofNat_of_lt' (by simp only [UInt8.size]; omega)]; omega
theorem b10_lt {x z : Int} (h1 : 0 ≤ x) (h2 : x ≤ 9) (h3 : 0 ≤ z) (h4 : z ≤ 9) : (b10 x < b10 z) ↔ x < z := by
  rw [UInt8.lt_iff_toNat_lt]
  have := b10_toNat' h1 h2
  have := b10_toNat' h3 h4
  omega
theorem b10_eq {x z : Int} (h1 : 0 ≤ x) (h2 : x ≤ 9) (h3 : 0 ≤ z) (h4 : z ≤ 9) : (b10 x = b10 z) ↔ x = z := by
  rw [← UInt8.toNat_inj]
  have := b10_toNat' h1 h2
  have := b10_toNat' h3 h4
  omega
theorem less_cons (a b : UInt8) (s t : List UInt8) : Op.bytesLess (a :: s) (b :: t) = (decide (a < b) || (a == b && Op.bytesLess s t)) := rfl
theorem dig2_less {x z : Int} (s t : List UInt8) (x1 : 0 ≤ x) (x2 : x ≤ 99) (z1 : 0 ≤ z) (z2 : z ≤ 99) (hne : x ≠ z) : Op.bytesLess (dig2 x ++ s) (dig2 z ++ t) = decide (x < z) := by
  show Op.bytesLess (b10 (x / 10) :: b10 (x % 10) :: s) (b10 (z / 10) :: b10 (z % 10) :: t) = _
  rw [less_cons, less_cons, Bool.eq_iff_iff]
  simp only [Bool.or_eq_true, decide_eq_true_eq, Bool.and_eq_true, beq_iff_eq]
  rw [b10_lt (by omega) (by omega) (by omega) (by omega), b10_eq (by omega) (by omega) (by omega) (by omega), b10_lt (by omega) (by omega) (by omega) (by omega), b10_eq (by omega) (by omega) (by omega) (by omega)]
  constructor
  · rintro (h | ⟨h1, h | ⟨h2, _⟩⟩) <;> omega
  · intro h
    by_cases c : x / 10 < z / 10
    · exact .inl c
    · exact .inr ⟨by omega, .inl (by omega)⟩
theorem dig4_less {x z : Int} (s t : List UInt8) (x1 : 0 ≤ x) (x2 : x ≤ 9999) (z1 : 0 ≤ z) (z2 : z ≤ 9999) (hne : x ≠ z) : Op.bytesLess (dig4 x ++ s) (dig4 z ++ t) = decide (x < z) := by
  show Op.bytesLess (b10 (x / 1000) :: b10 (x / 100 % 10) :: b10 (x / 10 % 10) :: b10 (x % 10) :: s) (b10 (z / 1000) :: b10 (z / 100 % 10) :: b10 (z / 10 % 10) :: b10 (z % 10) :: t) = _
  rw [less_cons, less_cons, less_cons, less_cons, Bool.eq_iff_iff]
  simp only [Bool.or_eq_true, decide_eq_true_eq, Bool.and_eq_true, beq_iff_eq]
  rw [b10_lt (by omega) (by omega) (by omega) (by omega), b10_eq (by omega) (by omega) (by omega) (by omega), b10_lt (by omega) (by omega) (by omega) (by omega), b10_eq (by omega) (by omega) (by omega) (by omega),
    b10_lt (by omega) (by omega) (by omega) (by omega), b10_eq (by omega) (by omega) (by omega) (by omega), b10_lt (by omega) (by omega) (by omega) (by omega), b10_eq (by omega) (by omega) (by omega) (by omega)]
  constructor
  · rintro (h | ⟨h1, h | ⟨h2, h | ⟨h3, h | ⟨h4, _⟩⟩⟩⟩) <;> omega
  · intro h
    by_cases c : x / 1000 < z / 1000
    · exact .inl c
    · refine .inr ⟨by omega, ?_⟩
      by_cases c2 : x / 100 % 10 < z / 100 % 10
      · exact .inl c2
      · refine .inr ⟨by omega, ?_⟩
        by_cases c3 : x / 10 % 10 < z / 10 % 10
        · exact .inl c3
        · exact .inr ⟨by omega, .inl (by omega)⟩

section
variable {y m d h i y' m' d' h' i' : Int}
theorem num_lt (hv : Cal.vld y m d h i = true) (hv' : Cal.vld y' m' d' h' i' = true)
    (hh : y < y' ∨ (y = y' ∧ (m < m' ∨ (m = m' ∧ (d < d' ∨ (d = d' ∧ (h < h' ∨ (h = h' ∧ i < i')))))))) : Cal.num y m d h i < Cal.num y' m' d' h' i' := by
  obtain ⟨⟨a1, a2, a3, a4⟩, a5, a6, a7, a8, a9, a10⟩ := Cal.vld_iff.1 hv
  obtain ⟨⟨c1, c2, c3, c4⟩, c5, c6, c7, c8, c9, c10⟩ := Cal.vld_iff.1 hv'
  rw [Cal.num_dnum, Cal.num_dnum]
  by_cases c : y < y' ∨ (y = y' ∧ (m < m' ∨ (m = m' ∧ d < d')))
  · have := Cal.dnum_lt ⟨a1, a2⟩ ⟨a3, a4⟩ ⟨a5, a6⟩ ⟨c1, c2⟩ ⟨c3, c4⟩ ⟨c5, c6⟩ c
    omega
  · have e1 : y = y' := by omega
    have e2 : m = m' := by omega
    have e3 : d = d' := by omega
    subst e1 e2 e3
    omega
/-- Where the first difference lies decides. -/
theorem num_lt_iff (hv : Cal.vld y m d h i = true) (hv' : Cal.vld y' m' d' h' i' = true) {a b : Int} (hne : a ≠ b)
    (h1 : a < b → y < y' ∨ (y = y' ∧ (m < m' ∨ (m = m' ∧ (d < d' ∨ (d = d' ∧ (h < h' ∨ (h = h' ∧ i < i'))))))))
    (h2 : b < a → y' < y ∨ (y' = y ∧ (m' < m ∨ (m' = m ∧ (d' < d ∨ (d' = d ∧ (h' < h ∨ (h' = h ∧ i' < i)))))))) :
    decide (a < b) = decide (Cal.num y m d h i < Cal.num y' m' d' h' i') ∧ Cal.num y m d h i ≠ Cal.num y' m' d' h' i' := by
  rcases Int.lt_or_gt_of_ne hne with c | c
  · have := num_lt hv hv' (h1 c)
    exact ⟨by rw [decide_eq_true c, decide_eq_true this], by omega⟩
  · have := num_lt hv' hv (h2 c)
    exact ⟨by rw [decide_eq_false (by omega), decide_eq_false (by omega)], by omega⟩
end
theorem S_toList (l : List UInt8) : (S l).toList = l := by rw [ByteArray.toList_eq, S_list]
theorem txt_cons (y m d h i : Int) : txt y m d h i = dig4 y ++ ([45] ++ (dig2 m ++ ([45] ++ (dig2 d ++ ([32] ++ (dig2 h ++ ([58] ++ (dig2 i ++ [])))))))) := by
  simp [txt]
section
variable {y m d h i y' m' d' h' i' : Int} (hv : Cal.vld y m d h i = true) (hv' : Cal.vld y' m' d' h' i' = true)
include hv hv'
theorem less0 (hne : y ≠ y') : Op.bytesLess (S (txt y m d h i)).toList (S (txt y' m' d' h' i')).toList = decide (Cal.num y m d h i < Cal.num y' m' d' h' i') := by
  obtain ⟨⟨a1, a2, a3, a4⟩, -⟩ := Cal.vld_iff.1 hv
  obtain ⟨⟨c1, c2, c3, c4⟩, -⟩ := Cal.vld_iff.1 hv'
  rw [S_toList, S_toList, txt_cons, txt_cons, dig4_less _ _ (by omega) (by omega) (by omega) (by omega) hne]
  exact (num_lt_iff hv hv' hne (fun c => .inl c) (fun c => .inl c)).1
end
section
variable {y m d h i m' d' h' i' : Int} (hv : Cal.vld y m d h i = true) (hv' : Cal.vld y m' d' h' i' = true)
include hv hv'
theorem less1 (hne : m ≠ m') : Op.bytesLess (S (txt y m d h i)).toList (S (txt y m' d' h' i')).toList = decide (Cal.num y m d h i < Cal.num y m' d' h' i') := by
  obtain ⟨⟨a1, a2, a3, a4⟩, -⟩ := Cal.vld_iff.1 hv
  obtain ⟨⟨c1, c2, c3, c4⟩, -⟩ := Cal.vld_iff.1 hv'
  rw [S_toList, S_toList, txt_cons, txt_cons, less_same, less_same, dig2_less _ _ (by omega) (by omega) (by omega) (by omega) hne]
  exact (num_lt_iff hv hv' hne (fun c => .inr ⟨rfl, .inl c⟩) (fun c => .inr ⟨rfl, .inl c⟩)).1
end
section
variable {y m d h i d' h' i' : Int} (hv : Cal.vld y m d h i = true) (hv' : Cal.vld y m d' h' i' = true)
include hv hv'
theorem less2 (hne : d ≠ d') : Op.bytesLess (S (txt y m d h i)).toList (S (txt y m d' h' i')).toList = decide (Cal.num y m d h i < Cal.num y m d' h' i') := by
  obtain ⟨-, a1, a2, -⟩ := Cal.vld_iff.1 hv
  obtain ⟨-, c1, c2, -⟩ := Cal.vld_iff.1 hv'
  have := Cal.dim_bd y m
  rw [S_toList, S_toList, txt_cons, txt_cons, less_same, less_same, less_same, less_same, dig2_less _ _ (by omega) (by omega) (by omega) (by omega) hne]
  exact (num_lt_iff hv hv' hne (fun c => .inr ⟨rfl, .inr ⟨rfl, .inl c⟩⟩) (fun c => .inr ⟨rfl, .inr ⟨rfl, .inl c⟩⟩)).1
end
section
variable {y m d h i h' i' : Int} (hv : Cal.vld y m d h i = true) (hv' : Cal.vld y m d h' i' = true)
include hv hv'
theorem less3 (hne : h ≠ h') : Op.bytesLess (S (txt y m d h i)).toList (S (txt y m d h' i')).toList = decide (Cal.num y m d h i < Cal.num y m d h' i') := by
  obtain ⟨-, -, -, a1, a2, -⟩ := Cal.vld_iff.1 hv
  obtain ⟨-, -, -, c1, c2, -⟩ := Cal.vld_iff.1 hv'
  rw [S_toList, S_toList, txt_cons, txt_cons, less_same, less_same, less_same, less_same, less_same, less_same, dig2_less _ _ (by omega) (by omega) (by omega) (by omega) hne]
  exact (num_lt_iff hv hv' hne (fun c => .inr ⟨rfl, .inr ⟨rfl, .inr ⟨rfl, .inl c⟩⟩⟩) (fun c => .inr ⟨rfl, .inr ⟨rfl, .inr ⟨rfl, .inl c⟩⟩⟩)).1
end
section
variable {y m d h i i' : Int} (hv : Cal.vld y m d h i = true) (hv' : Cal.vld y m d h i' = true)
include hv hv'
theorem less4 : decide (i < i') = decide (Cal.num y m d h i < Cal.num y m d h i') ∧ (Cal.num y m d h i == Cal.num y m d h i') = (i == i') ∧
    Op.bytesLess (S (txt y m d h i)).toList (S (txt y m d h i')).toList = decide (Cal.num y m d h i < Cal.num y m d h i') := by
  obtain ⟨-, -, -, -, -, a1, a2⟩ := Cal.vld_iff.1 hv
  obtain ⟨-, -, -, -, -, c1, c2⟩ := Cal.vld_iff.1 hv'
  have e1 : decide (i < i') = decide (Cal.num y m d h i < Cal.num y m d h i') := by unfold Cal.num; rw [Bool.eq_iff_iff]; simp
  refine ⟨e1, ?_, ?_⟩
  · unfold Cal.num; rw [Bool.eq_iff_iff]; simp
  · rw [← e1, S_toList, S_toList, txt_cons, txt_cons, less_same, less_same, less_same, less_same, less_same, less_same, less_same, less_same]
    by_cases hne : i = i'
    · subst hne
      rw [less_same]
      simp [Op.bytesLess]
    · exact dig2_less _ _ (by omega) (by omega) (by omega) (by omega) hne
end
end Go.Proofs.YtaohndjlaamdaaaDoor
