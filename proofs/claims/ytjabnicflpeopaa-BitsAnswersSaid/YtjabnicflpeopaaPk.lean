/- Lists of bits as bytes: plain facts on numbers and lists. -/
import Derived.Laws.BitsLemmas
import Derived.Laws.Shifts
import Derived.IntWalk
namespace Go.Proofs.Ytjabnicflpeopaa

/-- Bit i of some bytes, the most significant one first. -/
def bt (L : List Nat) (i : Nat) : Bool := (L.getD (i / 8) 0).testBit (7 - i % 8)
/-- L holds the first n bits of f, and bits 0 behind them. -/
structure Pk (L : List Nat) (n : Nat) (f : Nat → Bool) : Prop where
  len : L.length = (n + 7) / 8
  byte : ∀ x ∈ L, x < 256
  bit : ∀ i, bt L i = (decide (i < n) && f i)

theorem bt_ge {L : List Nat} {i : Nat} (h : 8 * L.length ≤ i) : bt L i = false := by
  unfold bt
  rw [List.getD_eq_getElem?_getD, List.getElem?_eq_none (by omega)]
  simp
theorem ext_bt {L M : List Nat} (hl : L.length = M.length) (bl : ∀ x ∈ L, x < 256) (bm : ∀ x ∈ M, x < 256) (h : ∀ i, bt L i = bt M i) : L = M := by
  refine List.ext_getElem hl (fun j h1 h2 => Nat.eq_of_testBit_eq (fun k => ?_))
  by_cases hk : k < 8
  · have e := h (8 * j + (7 - k))
    unfold bt at e
    rw [show (8 * j + (7 - k)) / 8 = j by omega, show 7 - (8 * j + (7 - k)) % 8 = k by omega] at e
    rw [List.getD_eq_getElem?_getD, List.getD_eq_getElem?_getD, List.getElem?_eq_getElem h1, List.getElem?_eq_getElem h2] at e
    exact e
  · have p : 256 ≤ 2 ^ k := Nat.le_trans (by decide : 256 ≤ 2 ^ 8) (Nat.pow_le_pow_right (by decide) (by omega))
    rw [Nat.testBit_lt_two_pow (Nat.lt_of_lt_of_le (bl _ (List.getElem_mem h1)) p), Nat.testBit_lt_two_pow (Nat.lt_of_lt_of_le (bm _ (List.getElem_mem h2)) p)]
theorem Pk.one {L M : List Nat} {n : Nat} {f g : Nat → Bool} (h : Pk L n f) (k : Pk M n g) (hfg : ∀ i, i < n → f i = g i) : L = M := by
  refine ext_bt (h.len.trans k.len.symm) h.byte k.byte (fun i => ?_)
  rw [h.bit, k.bit]
  by_cases hi : i < n
  · simp [hfg i hi]
  · simp [hi]
theorem Pk.cong {L : List Nat} {n : Nat} {f g : Nat → Bool} (h : Pk L n f) (hfg : ∀ i, i < n → f i = g i) : Pk L n g :=
  ⟨h.len, h.byte, fun i => by
    rw [h.bit]
    by_cases hi : i < n
    · simp [hfg i hi]
    · simp [hi]⟩

/-- Eight bits as a byte. -/
def by8 (a b c d e f g h : Bool) : Nat := a.toNat * 128 + b.toNat * 64 + c.toNat * 32 + d.toNat * 16 + e.toNat * 8 + f.toNat * 4 + g.toNat * 2 + h.toNat
theorem by8_lt : ∀ a b c d e f g h : Bool, by8 a b c d e f g h < 256 := by decide +kernel
theorem by8_bit : ∀ a b c d e f g h : Bool, ∀ k : Fin 8, (by8 a b c d e f g h).testBit (7 - k.val) = [a, b, c, d, e, f, g, h].getD k.val false := by decide +kernel
/-- The first n bits of f as bytes. -/
def pack (n : Nat) (f0 : Nat → Bool) : List Nat :=
  let f := fun i => decide (i < n) && f0 i
  (List.range ((n + 7) / 8)).map fun j => by8 (f (8 * j)) (f (8 * j + 1)) (f (8 * j + 2)) (f (8 * j + 3)) (f (8 * j + 4)) (f (8 * j + 5)) (f (8 * j + 6)) (f (8 * j + 7))
theorem pack_len (n : Nat) (f : Nat → Bool) : (pack n f).length = (n + 7) / 8 := by simp [pack]
theorem pack_pk (n : Nat) (f : Nat → Bool) : Pk (pack n f) n f := by
  refine ⟨pack_len n f, fun x hx => ?_, fun i => ?_⟩
  · obtain ⟨j, -, rfl⟩ := List.mem_map.1 hx
    exact by8_lt _ _ _ _ _ _ _ _
  · by_cases hi : i / 8 < (n + 7) / 8
    · unfold bt
      rw [List.getD_eq_getElem?_getD, List.getElem?_eq_getElem (by rw [pack_len]; exact hi), Option.getD_some]
      simp only [pack, List.getElem_map, List.getElem_range]
      refine (by8_bit _ _ _ _ _ _ _ _ ⟨i % 8, by omega⟩).trans ?_
      rcases (by omega : i % 8 = 0 ∨ i % 8 = 1 ∨ i % 8 = 2 ∨ i % 8 = 3 ∨ i % 8 = 4 ∨ i % 8 = 5 ∨ i % 8 = 6 ∨ i % 8 = 7) with e | e | e | e | e | e | e | e <;> simp only [e, List.getD_cons_zero, List.getD_cons_succ]
      · rw [show 8 * (i / 8) = i by omega]
      · rw [show 8 * (i / 8) + 1 = i by omega]
      · rw [show 8 * (i / 8) + 2 = i by omega]
      · rw [show 8 * (i / 8) + 3 = i by omega]
      · rw [show 8 * (i / 8) + 4 = i by omega]
      · rw [show 8 * (i / 8) + 5 = i by omega]
      · rw [show 8 * (i / 8) + 6 = i by omega]
      · rw [show 8 * (i / 8) + 7 = i by omega]
    · rw [bt_ge (by rw [pack_len]; omega), decide_eq_false (by omega : ¬ i < n)]
      rfl
theorem Pk.eq {L : List Nat} {n : Nat} {f g : Nat → Bool} (h : Pk L n f) (hfg : ∀ i, i < n → f i = g i) : L = pack n g := h.one (pack_pk n g) hfg
theorem Pk.zero (n : Nat) : Pk (List.replicate ((n + 7) / 8) 0) n (fun _ => false) := by
  refine ⟨by simp, fun x hx => ?_, fun i => ?_⟩
  · rw [(List.mem_replicate.1 hx).2]; decide
  · unfold bt
    by_cases hi : i / 8 < (n + 7) / 8
    · rw [List.getD_eq_getElem?_getD, List.getElem?_replicate, if_pos hi]; simp
    · rw [List.getD_eq_getElem?_getD, List.getElem?_replicate, if_neg hi]; simp

/-- A bit laid into a byte. -/
theorem Pk.put {L : List Nat} {n i : Nat} {f : Nat → Bool} (h : Pk L n f) (hi : i < n) (hf : f i = false) (b : Bool) :
    Pk (L.set (i / 8) (L.getD (i / 8) 0 ||| b.toNat <<< (7 - i % 8))) n (fun j => if j = i then b else f j) := by
  have hl : i / 8 < L.length := by rw [h.len]; omega
  refine ⟨by rw [List.length_set]; exact h.len, fun x hx => ?_, fun j => ?_⟩
  · rcases List.mem_or_eq_of_mem_set hx with h1 | rfl
    · exact h.byte x h1
    · refine Nat.or_lt_two_pow (n := 8) ?_ ?_
      · rw [List.getD_eq_getElem?_getD, List.getElem?_eq_getElem hl]; exact h.byte _ (List.getElem_mem hl)
      · have : b.toNat ≤ 1 := Bool.toNat_le b
        rw [Nat.shiftLeft_eq]
        have p : 2 ^ (7 - i % 8) ≤ 2 ^ 7 := Nat.pow_le_pow_right (by decide) (by omega)
        have q : b.toNat * 2 ^ (7 - i % 8) ≤ 1 * 2 ^ 7 := Nat.mul_le_mul this p
        omega
  · have hb := h.bit j
    unfold bt at hb ⊢
    by_cases hj : j / 8 = i / 8
    · rw [hj] at hb ⊢
      rw [List.getD_eq_getElem?_getD, List.getElem?_set_self hl, Option.getD_some, Nat.testBit_or, hb, Nat.testBit_shiftLeft]
      by_cases e : j = i
      · subst e
        rw [if_pos rfl, hf]
        cases b <;> simp [hi]
      · rw [if_neg e]
        have : (decide (7 - j % 8 ≥ 7 - i % 8) && b.toNat.testBit (7 - j % 8 - (7 - i % 8))) = false := by
          by_cases hge : 7 - j % 8 ≥ 7 - i % 8
          · have hlt : b.toNat < 2 ^ (7 - j % 8 - (7 - i % 8)) := by
              have : b.toNat ≤ 1 := Bool.toNat_le b
              have p : 2 ^ 1 ≤ 2 ^ (7 - j % 8 - (7 - i % 8)) := Nat.pow_le_pow_right (by decide) (by omega)
              omega
            rw [Nat.testBit_lt_two_pow hlt, Bool.and_false]
          · simp [hge]
        rw [this, Bool.or_false]
    · rw [List.getD_eq_getElem?_getD, List.getElem?_set_ne (Ne.symm hj), ← List.getD_eq_getElem?_getD, hb, if_neg (fun e => hj (by rw [e]))]

/-- The number that w bits of f from s on write. -/
def num (f : Nat → Bool) (s : Nat) : Nat → Nat
  | 0 => 0
  | w + 1 => 2 * num f s w + (f (s + w)).toNat
theorem num_cong {f g : Nat → Bool} {s : Nat} : ∀ {w : Nat}, (∀ i, i < w → f (s + i) = g (s + i)) → num f s w = num g s w
  | 0, _ => rfl
  | w + 1, h => by
    unfold num
    rw [num_cong (fun i hi => h i (by omega)), h w (by omega)]
theorem num_lt (f : Nat → Bool) (s : Nat) : ∀ w, num f s w < 2 ^ w
  | 0 => Nat.zero_lt_one
  | w + 1 => by
    have := num_lt f s w
    have b := Bool.toNat_le (f (s + w))
    unfold num
    rw [Nat.pow_succ]
    omega
/-- What is written is read. -/
theorem num_of (v w s : Nat) (f : Nat → Bool) (hf : ∀ i, i < w → f (s + i) = v.testBit (w - 1 - i)) : ∀ k, k ≤ w → num f s k = v / 2 ^ (w - k) % 2 ^ k
  | 0, _ => by simp [num, Nat.mod_one]
  | k + 1, hk => by
    unfold num
    rw [num_of v w s f hf k (by omega), hf k (by omega), Nat.toNat_testBit]
    rw [show w - 1 - k = w - (k + 1) by omega, show w - k = (w - (k + 1)) + 1 by omega, Nat.pow_succ 2 (w - (k + 1)), ← Nat.div_div_eq_div_mul]
    generalize v / 2 ^ (w - (k + 1)) = q
    rw [Nat.pow_succ, Nat.mul_comm (2 ^ k) 2, Nat.mod_mul]
    omega
theorem num_eq {v w s : Nat} {f : Nat → Bool} (hv : v < 2 ^ w) (hf : ∀ i, i < w → f (s + i) = v.testBit (w - 1 - i)) : num f s w = v := by
  rw [num_of v w s f hf w (Nat.le_refl _), Nat.sub_self, Nat.pow_zero, Nat.div_one, Nat.mod_eq_of_lt hv]

theorem bit_val {L : List Nat} {i : Nat} (hi : i / 8 < L.length) : L[i / 8] / 2 ^ (7 - i % 8) % 2 = (bt L i).toNat := by
  unfold bt
  rw [List.getD_eq_getElem?_getD, List.getElem?_eq_getElem hi, Nat.toNat_testBit]
  rfl
theorem shl_zero0 : ∀ x : Fin 256, ∀ u : Fin 8, (decide ((x.val * 2 ^ u.val) % 256 = 0)) = (List.range (8 - u.val)).all (fun k => !x.val.testBit k) := by decide +kernel
theorem shl_zero {x u : Nat} (hx : x < 256) (hu : u < 8) : (x * 2 ^ u) % 256 = 0 ↔ ∀ k, k < 8 - u → x.testBit k = false := by
  have h := shl_zero0 ⟨x, hx⟩ ⟨u, hu⟩
  simp only at h
  rw [← decide_eq_true_iff (p := (x * 2 ^ u) % 256 = 0), h, List.all_eq_true]
  constructor
  · intro h k hk
    have := h k (List.mem_range.2 hk)
    simpa using this
  · intro h k hk
    have := h k (List.mem_range.1 hk)
    simp [this]
/-- A valid list of bits. -/
def Vd (L : List Nat) (n : Int) : Prop := 0 ≤ n ∧ n ≤ 40000 ∧ L.length = (n.toNat + 7) / 8 ∧ ∀ i, n.toNat ≤ i → bt L i = false
open Classical in
noncomputable def vb (L : List Nat) (n : Int) : Bool := decide (Vd L n)
open Classical in
theorem vb_yes {L : List Nat} {n : Int} (h : Vd L n) : vb L n = true := by unfold vb; exact decide_eq_true h
open Classical in
theorem vb_no {L : List Nat} {n : Int} (h : ¬ Vd L n) : vb L n = false := by unfold vb; exact decide_eq_false h
theorem Vd.pk {L : List Nat} {n : Int} (h : Vd L n) (hb : ∀ x ∈ L, x < 256) : Pk L n.toNat (bt L) := by
  refine ⟨h.2.2.1, hb, fun i => ?_⟩
  by_cases hi : i < n.toNat
  · simp [hi]
  · rw [h.2.2.2 i (by omega)]; simp [hi]
theorem Pk.vd {L : List Nat} {n : Nat} {f : Nat → Bool} (h : Pk L n f) (hn : n ≤ 40000) : Vd L (n : Int) := by
  refine ⟨by omega, by omega, by simpa using h.len, fun i hi => ?_⟩
  rw [h.bit, decide_eq_false (by simp at hi; omega)]
  rfl
end Go.Proofs.Ytjabnicflpeopaa
