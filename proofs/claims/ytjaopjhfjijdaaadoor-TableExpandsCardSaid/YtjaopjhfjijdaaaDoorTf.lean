/- Facts on the tables that data.Table makes, and on numbers that stand for values. -/
import Derived.Test.YtjaopjhfjijdaaaDoorDb
import Derived.Test.YtjaopjhfjijdaaaDoorEn
import Derived.Test.YtjaopjhfjijdaaaDoorEw
namespace Go.Proofs.YtjaopjhfjijdaaaDoor

theorem nodup_of {α : Type} {f : α → Int} {L : List α} {a b : Int} (ha : a ≠ 0) (h : ∀ i (h : i < L.length), f L[i] = a * (i : Int) + b) : (L.map f).Nodup := by
  refine List.pairwise_iff_getElem.2 fun i j hi hj hij => ?_
  rw [List.length_map] at hi hj
  rw [List.getElem_map, List.getElem_map, h i hi, h j hj]
  intro q
  have q : a * (i : Int) = a * (j : Int) := by omega
  have := Int.eq_of_mul_eq_mul_left ha q
  omega
theorem tab_good {v : Int} {es : List En} {ss : List Sq} (hv : 1 ≤ v ∧ v ≤ 99) (he : es.length = 11 ∧ EsP es) (hs : SsP ss) : Good v es ss where
  ver := hv
  el := by omega
  sl := by have := hs.1; omega
  cl := fun s h => by
    obtain ⟨i, hi, rfl⟩ := List.getElem_of_mem h
    have := (hs.2 i hi).2.1
    omega
  ok := fun e h => by
    obtain ⟨i, hi, rfl⟩ := List.getElem_of_mem h
    exact (he.2 i hi).2
  sq := fun s h => by
    obtain ⟨i, hi, rfl⟩ := List.getElem_of_mem h
    rintro (q | ⟨c, hc, q⟩)
    · refine q (knd_2.2 ?_)
      have := (hs.2 i hi).1
      have := hs.1
      omega
    · exact (hs.2 i hi).2.2 c hc q
  en := nodup_of (a := 100) (b := 100) (by decide) fun i hi => by rw [(he.2 i hi).1]; omega
  sn := nodup_of (a := 1) (b := 10000) (by decide) fun i hi => by rw [(hs.2 i hi).1]; omega
theorem tab_find {es : List En} (he : es.length = 11 ∧ EsP es) {c : Int} (h : ∃ k : Int, 1 ≤ k ∧ k ≤ 11 ∧ c = 100 * k) : ∃ e, fE es c = some e := by
  obtain ⟨k, k1, k2, rfl⟩ := h
  obtain ⟨n, hn⟩ : ∃ n : Nat, k = (n : Int) + 1 := ⟨(k - 1).toNat, by omega⟩
  have hl : n < es.length := by omega
  have hm := List.getElem_mem hl
  have hx := (he.2 n hl).1
  unfold fE
  cases hf : es.find? (fun e => e.1 == 100 * k) with
  | some e => exact ⟨e, rfl⟩
  | none =>
    have := List.find?_eq_none.1 hf _ hm
    exact absurd (by rw [hx, hn]; exact beq_self_eq_true _) this
/-- What is written is read as a number at most as great, less than the scale away. -/
theorem dec_enc {e : En} {y : Int} (h : (encA e y).2 = 0) : okE e ∧ ∃ w, decA e (encA e y).1 = (w, true) ∧ w ≤ y ∧ y - w < e.2.2.2.1 := by
  by_cases q : okE e ∧ e.2.2.2.2 ≤ y ∧ y < e.2.2.2.2 + e.2.2.2.1 * (2 ^ e.2.2.1.toNat - 1)
  · obtain ⟨q0, q1, q2⟩ := q
    have hsc := q0.2.2.2.2.1
    rw [encA_yes q0 q1 q2]
    show _ ∧ ∃ w, decA e ((y - e.2.2.2.2) / e.2.2.2.1) = (w, true) ∧ _
    have h0 : 0 ≤ (y - e.2.2.2.2) / e.2.2.2.1 := Int.ediv_nonneg (by omega) (by omega)
    have h1 : (y - e.2.2.2.2) / e.2.2.2.1 < 2 ^ e.2.2.1.toNat - 1 := Int.ediv_lt_of_lt_mul (by omega) (by rw [Int.mul_comm]; omega)
    refine ⟨q0, _, decA_yes q0 h0 (by omega), ?_, ?_⟩
    · have := Int.mul_ediv_self_le (x := y - e.2.2.2.2) (k := e.2.2.2.1) (by omega)
      omega
    · have := Int.lt_mul_ediv_self_add (x := y - e.2.2.2.2) (k := e.2.2.2.1) (by omega)
      omega
  · rw [encA_no q] at h
    cases h
theorem enc_dec {e : En} {y : Int} (h : (decA e y).2 = true) : encA e (decA e y).1 = (y, 0) := by
  by_cases q : okE e ∧ 0 ≤ y ∧ y ≤ 2 ^ e.2.2.1.toNat - 2
  · obtain ⟨q0, q1, q2⟩ := q
    have hsc := q0.2.2.2.2.1
    rw [decA_yes q0 q1 q2]
    show encA e (e.2.2.2.2 + e.2.2.2.1 * y) = _
    have h0 : 0 ≤ e.2.2.2.1 * y := Int.mul_nonneg (by omega) q1
    have h1 : e.2.2.2.1 * y < e.2.2.2.1 * (2 ^ e.2.2.1.toNat - 1) := Int.mul_lt_mul_of_pos_left (by omega) (by omega)
    rw [encA_yes q0 (by omega) (by omega), show e.2.2.2.2 + e.2.2.2.1 * y - e.2.2.2.2 = e.2.2.2.1 * y by omega, Int.mul_ediv_cancel_left _ (by omega)]
  · rw [decA_no q] at h
    cases h
theorem enc_i64 (e : En) {y : Int} (_hy : -9223372036854775808 ≤ y ∧ y ≤ 9223372036854775807) : 0 ≤ (encA e y).1 ∧ (encA e y).1 ≤ 16777216 := by
  by_cases q : okE e ∧ e.2.2.2.2 ≤ y ∧ y < e.2.2.2.2 + e.2.2.2.1 * (2 ^ e.2.2.1.toNat - 1)
  · obtain ⟨q0, q1, q2⟩ := q
    have hsc := q0.2.2.2.2.1
    rw [encA_yes q0 q1 q2]
    have h0 : 0 ≤ (y - e.2.2.2.2) / e.2.2.2.1 := Int.ediv_nonneg (by omega) (by omega)
    have h1 : (y - e.2.2.2.2) / e.2.2.2.1 < 2 ^ e.2.2.1.toNat - 1 := Int.ediv_lt_of_lt_mul (by omega) (by rw [Int.mul_comm]; omega)
    have hw := q0.2.2.1
    have hw' := q0.2.2.2.1
    have := (pw_bd (k := e.2.2.1.toNat) (by omega) (by omega)).2
    exact ⟨h0, by omega⟩
  · rw [encA_no q]
    exact ⟨by decide, by decide⟩
theorem dec_i64 (e : En) (y : Int) : -100000 ≤ (decA e y).1 ∧ (decA e y).1 ≤ 16777316000 := by
  by_cases q : okE e ∧ 0 ≤ y ∧ y ≤ 2 ^ e.2.2.1.toNat - 2
  · obtain ⟨q0, q1, q2⟩ := q
    rw [decA_yes q0 q1 q2]
    obtain ⟨_, _, w1, w2, s1, s2, l1, l2⟩ := q0
    have := (pw_bd (k := e.2.2.1.toNat) (by omega) (by omega)).2
    have := mul_bd s1 s2 q1 (by omega)
    show -100000 ≤ e.2.2.2.2 + e.2.2.2.1 * y ∧ _
    exact ⟨by omega, by omega⟩
  · rw [decA_no q]
    exact ⟨by decide, by decide⟩
end Go.Proofs.YtjaopjhfjijdaaaDoor
