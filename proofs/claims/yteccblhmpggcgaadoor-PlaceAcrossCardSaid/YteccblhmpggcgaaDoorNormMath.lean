/- What PlaceNormal asks: how many addresses, which normal places are equal. -/
import Derived.Test.YteccblhmpggcgaaDoorAwake
namespace Go.Proofs.YteccblhmpggcgaaDoor
open Go.RowKit

/-- How many of the first k numbers are 0. -/
def zc (x y z : Int) : Nat → Nat
  | 0 => 0
  | 1 => if x = 0 then 1 else 0
  | 2 => (if x = 0 then 1 else 0) + (if y = 0 then 1 else 0)
  | _ => (if x = 0 then 1 else 0) + (if y = 0 then 1 else 0) + (if z = 0 then 1 else 0)
theorem zc_le (x y z : Int) (k : Nat) : zc x y z k ≤ 3 := by
  unfold zc; split <;> by_cases a : x = 0 <;> by_cases b : y = 0 <;> by_cases c : z = 0 <;> simp [a, b, c]
theorem zc_step (x y z : Int) (k : Nat) (hk : k < 3) (u : Int) (hu : [x, y, z][k]? = some u) : zc x y z (k + 1) = zc x y z k + if u = 0 then 1 else 0 := by
  have : k = 0 ∨ k = 1 ∨ k = 2 := by omega
  rcases this with rfl | rfl | rfl <;> simp at hu <;> subst hu <;> simp [zc]
theorem len_zeros {f : Nat} {x y z : Int} (h : Ico.Vld f x y z) :
    (zc x y z 3 = 0 ∧ (Ico.fcs f x y z 20).length = 1) ∨ (zc x y z 3 = 1 ∧ (Ico.fcs f x y z 20).length = 2) ∨ (zc x y z 3 = 2 ∧ (Ico.fcs f x y z 20).length = 5) := by
  rw [Ico.fcs_okB h, Ico.counts f h.1]
  obtain ⟨_, h1, h2, h3, h4, h5, h6, h7⟩ := h
  unfold zc
  by_cases a : x = 0 <;> by_cases b : y = 0 <;> by_cases c : z = 0 <;> simp [a, b, c] <;> omega
theorem wt_nrm {f : Nat} {a b c : Int} (h : Ico.Vld f a b c) (v : Nat) : Ico.wt (Ico.nf f a b c) (nw f a b c 0) (nw f a b c 1) (nw f a b c 2) v = Ico.wt f a b c v :=
  Ico.wt_on h (Ico.nf_ok h).1 (Ico.nf_ok h).2 v
theorem same_normal {f g : Nat} {a b c x y z : Int} (hp : Ico.Vld f a b c) (hq : Ico.Vld g x y z) :
    sw f a b c g x y z = (((Ico.nf f a b c : Nat) : Int) == ((Ico.nf g x y z : Nat) : Int) && nw f a b c 0 == nw g x y z 0 && nw f a b c 1 == nw g x y z 1 && nw f a b c 2 == nw g x y z 2) := by
  rw [Bool.eq_iff_iff, sw_all]
  simp only [Bool.and_eq_true, beq_iff_eq]
  constructor
  · intro h
    have hn := Ico.nf_same h
    refine ⟨⟨⟨by rw [hn], ?_⟩, ?_⟩, ?_⟩ <;> (unfold nw; rw [hn, h])
  · rintro ⟨⟨⟨h0, h1⟩, h2⟩, h3⟩ v
    have h0 : Ico.nf f a b c = Ico.nf g x y z := by omega
    rw [← wt_nrm hp, ← wt_nrm hq, h0, h1, h2, h3]
/-- The place out of its own list. -/
theorem at_own {f : Nat} {a b c : Int} (h : Ico.Vld f a b c) : Ico.wt f a b c (Ico.cor f 0) = a ∧ Ico.wt f a b c (Ico.cor f 1) = b ∧ Ico.wt f a b c (Ico.cor f 2) = c := ⟨Ico.wt0 _ _ _ _, Ico.wt1 h.1 _ _ _, Ico.wt2 h.1 _ _ _⟩
theorem get_ok {f : Nat} {a b c : Int} {i : Nat} (hi : i < (Ico.fcs f a b c 20).length) : (Ico.fcs f a b c 20)[i] < 20 ∧ Ico.ok f a b c (Ico.fcs f a b c 20)[i] = true := Ico.mem_fcs.1 (List.getElem_mem hi)
/-- The normal place of any address. -/
theorem normal_at {f : Nat} {a b c : Int} (h : Ico.Vld f a b c) (i : Nat) (hi : i < (Ico.fcs f a b c 20).length) (w : World) :
    Calls Tryd.prog 13 #[.agg #[.int .i64 ((Ico.fcs f a b c 20)[i] : Nat), .int .i64 (Ico.wt f a b c (Ico.cor (Ico.fcs f a b c 20)[i] 0)), .int .i64 (Ico.wt f a b c (Ico.cor (Ico.fcs f a b c 20)[i] 1)), .int .i64 (Ico.wt f a b c (Ico.cor (Ico.fcs f a b c 20)[i] 2))]] w
      fun e w' => e = .returned (.tuple #[.agg #[.int .i64 (Ico.nf f a b c : Nat), .int .i64 (nw f a b c 0), .int .i64 (nw f a b c 1), .int .i64 (nw f a b c 2)], .int .i64 0]) ∧ Below w.heap.size w w' := by
  obtain ⟨k1, k2⟩ := get_ok hi
  generalize (Ico.fcs f a b c 20)[i] = g at *
  have hs := Ico.wt_on h k1 k2
  have hn := Ico.nf_same hs
  have h2 := normal_yes g _ _ _ w (Ico.vld_on h k1 k2)
  have e : ∀ k, nw g (Ico.wt f a b c (Ico.cor g 0)) (Ico.wt f a b c (Ico.cor g 1)) (Ico.wt f a b c (Ico.cor g 2)) k = nw f a b c k := fun k => by unfold nw; rw [hn, hs]
  rw [hn, e, e, e] at h2
  exact h2
theorem same_at {f : Nat} {a b c : Int} (h : Ico.Vld f a b c) (i : Nat) (hi : i < (Ico.fcs f a b c 20).length) (w : World) :
    Calls Tryd.prog 22 #[.agg #[.int .i64 ((Ico.fcs f a b c 20)[i] : Nat), .int .i64 (Ico.wt f a b c (Ico.cor (Ico.fcs f a b c 20)[i] 0)), .int .i64 (Ico.wt f a b c (Ico.cor (Ico.fcs f a b c 20)[i] 1)), .int .i64 (Ico.wt f a b c (Ico.cor (Ico.fcs f a b c 20)[i] 2))], .agg #[.int .i64 f, .int .i64 a, .int .i64 b, .int .i64 c]] w
      fun e w' => e = .returned (.bool true) ∧ Below w.heap.size w w' := by
  obtain ⟨k1, k2⟩ := get_ok hi
  generalize (Ico.fcs f a b c 20)[i] = g at *
  have h2 := same_both g _ _ _ f a b c w (Ico.vld_on h k1 k2) h
  rw [sw_all.2 (Ico.wt_on h k1 k2)] at h2
  exact h2
/-- The face f is among the first i. -/
def fd (f : Nat) (L : List Nat) (i : Nat) : Bool := decide (f ∈ L.take i)
theorem fd_step {f : Nat} {L : List Nat} {i : Nat} (hi : i < L.length) : fd f L (i + 1) = (fd f L i || decide (L[i] = f)) := by
  unfold fd
  rw [List.take_succ_eq_append_getElem hi, Bool.eq_iff_iff]
  simp only [List.mem_append, List.mem_singleton, decide_eq_true_eq, Bool.or_eq_true]
  constructor <;> rintro (h | h) <;> first | exact .inl h | exact .inr h.symm
theorem fd_end {f : Nat} {a b c : Int} (h : Ico.Vld f a b c) : fd f (Ico.fcs f a b c 20) (Ico.fcs f a b c 20).length = true := by
  unfold fd; rw [List.take_length]; exact decide_eq_true (Ico.mem_fcs.2 ⟨h.1, Ico.ok_self h⟩)
theorem face_lt {f : Nat} {a b c : Int} {i j : Nat} (hij : i < j) (hj : j < (Ico.fcs f a b c 20).length) : ¬ (((Ico.fcs f a b c 20)[j] : Nat) : Int) ≤ (((Ico.fcs f a b c 20)[i]'(by omega) : Nat) : Int) := by
  have := Ico.fcs_lt hij hj; omega
end Go.Proofs.YteccblhmpggcgaaDoor
