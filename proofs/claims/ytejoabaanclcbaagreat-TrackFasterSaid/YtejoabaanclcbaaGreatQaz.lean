/- Texts of this proof. -/
import Derived.Test.YtejoabaanclcbaaGreatTkT
import Derived.Test.YtejoabaanclcbaaGreatTkF
namespace Go.Proofs.YtejoabaanclcbaaGreat.Tk
open Go.RowKit Go.Maps

theorem asc_lt {L : List Sg} : ascP L ↔ L.Pairwise (fun x y => x.t < y.t) := by
  constructor
  · intro h
    rw [List.pairwise_iff_getElem]
    have key : ∀ d i, ∀ h2 : i + d + 1 < L.length, L[i].t < L[i + d + 1].t := by
      intro d
      induction d with
      | zero => intro i h2; exact h i (by omega) (by omega)
      | succ d ih =>
        intro i h2
        have a := ih i (by omega)
        have b := h (i + d + 1) (by omega) (by omega)
        have e : L[i + (d + 1) + 1] = L[i + d + 1 + 1] := by congr 1
        rw [e]
        omega
    intro i j hi hj hij
    have := key (j - i - 1) i (by omega)
    have e : L[i + (j - i - 1) + 1]'(by omega) = L[j] := by congr 1; omega
    rw [e] at this
    exact this
  · intro h i h1 h2
    exact List.pairwise_iff_getElem.1 h i (i + 1) (by omega) (by omega) (by omega)
theorem gr_perm {L L' : List Sg} (h : L'.Perm L) (k : ByteArray) : (gr L' k).Perm (gr L k) := h.filter _
theorem gr_up {L : List Sg} (h : L.Pairwise (fun x y => x.t ≤ y.t)) (k : ByteArray) : (gr L k).Pairwise (fun x y => x.t ≤ y.t) := h.filter _
theorem asc_eq {G G' : List Sg} (hp : G'.Perm G) (h : ascP G) (h' : ascP G') : G' = G := by
  rw [asc_lt] at h h'
  exact hp.eq_of_pairwise (le := fun x y : Sg => x.t < y.t) (fun a b _ _ h1 h2 => by omega) h' h
theorem up_eq {l l' : List Nat} (h : l.Pairwise (fun x y => x < y)) (h' : l'.Pairwise (fun x y => x < y)) (hm : ∀ i, i ∈ l ↔ i ∈ l') : l = l' := by
  have n1 : l.Nodup := h.imp fun h => by omega
  have n2 : l'.Nodup := h'.imp fun h => by omega
  have hp : l.Perm l' := (List.perm_ext_iff_of_nodup n1 n2).2 hm
  exact hp.eq_of_pairwise (le := fun x y : Nat => x < y) (fun a b _ _ h1 h2 => by omega) h h'
theorem susL_one {h : Int} {L : List Sg} {l l' : List Nat} (h1 : SusL h L l) (h2 : SusL h L l') : l = l' := by
  obtain ⟨A, a1, a2, a3, a4, a5⟩ := h1
  obtain ⟨B, b1, b2, b3, b4, b5⟩ := h2
  have hab : A.Perm B := a1.trans b1.symm
  have hg : ∀ k, gr A k = gr B k := fun k => asc_eq (gr_perm hab k) (b3 k) (a3 k)
  refine up_eq a4 b4 fun i => ?_
  rw [a5 i, b5 i]
  constructor
  · rintro ⟨x, hx, e, ho⟩; exact ⟨x, hab.mem_iff.1 hx, e, by rw [← hg]; exact ho⟩
  · rintro ⟨x, hx, e, ho⟩; exact ⟨x, hab.mem_iff.2 hx, e, by rw [hg]; exact ho⟩
end Go.Proofs.YtejoabaanclcbaaGreat.Tk


namespace Go.Proofs.YtejoabaanclcbaaGreat.Tk

theorem ln_mono {n : Nat} {P Q : Nat → Nat → Bool} (h : ∀ i j, i < j → j < n → P i j = true → Q i j = true) : ∀ d i, n - i ≤ d → i < n → ln n P i ≤ ln n Q i
  | 0, i, hd, hi => by omega
  | d + 1, i, hd, hi => by
    obtain ⟨-, h2, -⟩ := ln_mx (P := P) hi
    obtain ⟨g1, -, g3⟩ := ln_mx (P := Q) hi
    rcases h2 with h2 | ⟨k, k1, k2, k3, k4⟩
    · omega
    · have := ln_mono h d k (by omega) k2
      have := g1 k k1 k2 (h i k k1 k2 k3)
      omega
theorem best_len {n : Nat} {P : Nat → Nat → Bool} {l : List Nat} (h : Best n P l) : (∀ i, i < n → ln n P i ≤ l.length) ∧ (n = 0 ∧ l.length = 0 ∨ ∃ s, s < n ∧ l.length = ln n P s) := by
  rcases h with ⟨h0, rfl⟩ | ⟨s, ⟨⟨a1, a2⟩, b, c⟩, rfl⟩
  · exact ⟨fun i hi => by omega, .inl ⟨h0, rfl⟩⟩
  · have e : (chn n P s).length = ln n P s := chf_len _ _ _ _
    rw [e]
    exact ⟨fun i hi => b i (Nat.zero_le _) hi, .inr ⟨s, a2, rfl⟩⟩
theorem best_mono {n : Nat} {P Q : Nat → Nat → Bool} (h : ∀ i j, i < j → j < n → P i j = true → Q i j = true) {l m : List Nat} (hl : Best n P l) (hm : Best n Q m) : l.length ≤ m.length := by
  rcases (best_len hl).2 with ⟨-, e⟩ | ⟨s, hs, e⟩
  · omega
  · have := ln_mono h n s (by omega) hs
    have := (best_len hm).1 s hs
    omega
theorem ln_full {n : Nat} {P : Nat → Nat → Bool} (h : ∀ i, i + 1 < n → P i (i + 1) = true) : ∀ d i, n - i ≤ d → i < n → ln n P i = n - i
  | 0, i, hd, hi => by omega
  | d + 1, i, hd, hi => by
    have h1 := ln_le (P := P) n i (by omega) hi
    by_cases hn : i + 1 < n
    · have := ln_full h d (i + 1) (by omega) hn
      have := (ln_mx (P := P) hi).1 (i + 1) (by omega) hn (h i hn)
      omega
    · have := ln_pos (P := P) hi
      omega
theorem best_full {n : Nat} {P : Nat → Nat → Bool} (h : ∀ i, i + 1 < n → P i (i + 1) = true) {l : List Nat} (hl : Best n P l) : l.length = n := by
  rcases Nat.eq_zero_or_pos n with h0 | h0
  · rcases (best_len hl).2 with ⟨-, e⟩ | ⟨s, hs, e⟩ <;> omega
  · have h1 := (best_len hl).1 0 h0
    rw [ln_full h n 0 (by omega) h0] at h1
    rcases (best_len hl).2 with ⟨-, e⟩ | ⟨s, hs, e⟩
    · omega
    · have := ln_le (P := P) n s (by omega) hs
      omega
/-- A chain: ascending numbers below n, each plausible after the one before. -/
def okC (n : Nat) (P : Nat → Nat → Bool) : List Nat → Prop
  | [] => True
  | [i] => i < n
  | i :: j :: r => i < j ∧ P i j = true ∧ okC n P (j :: r)
/-- c is lexicographically not greater than s. -/
def LexLe (c s : List Nat) : Prop := ∀ k, ∀ h1 : k < c.length, ∀ h2 : k < s.length, (∀ j, ∀ hj : j < k, c[j]'(by omega) = s[j]'(by omega)) → c[k] ≤ s[k]
end Go.Proofs.YtejoabaanclcbaaGreat.Tk


namespace Go.Proofs.YtejoabaanclcbaaGreat.Tk
open Go.RowKit Go.Maps

def rel (f : Nat → Nat) (x : Sg) : Sg := ⟨x.nm, x.t, x.nd, f x.ix⟩
/-- A numbering that keeps numbers of L apart. -/
def Apart (f : Nat → Nat) (L : List Sg) : Prop := ∀ x ∈ L, ∀ y ∈ L, f x.ix = f y.ix → x.ix = y.ix
/-- No error where all can be examined and no two sightings have one time. -/
theorem sus_ok {h : Int} {R : List Rq} {l : List Nat} {c : Int} (ht : SusT h R l c) (hh : 0 ≤ h ∧ h ≤ 1000) (ho : oks sea R) (hd : (sgl sea 0 R).Pairwise (fun x y => x.nm = y.nm → x.t ≠ y.t)) : c = 0 ∧ SusL h (sgl sea 0 R) l := by
  rcases ht with ⟨a, -⟩ | ⟨-, ⟨A, a1, a2, k, a3⟩, -⟩ | ⟨-, b, rfl⟩
  · exact absurd ⟨hh, ho⟩ a
  · refine absurd ?_ a3
    have h1 : A.Pairwise (fun x y => x.nm = y.nm → x.t ≠ y.t) := a1.symm.pairwise hd (fun {_ _} h e => Ne.symm (h e.symm))
    have h2 : (gr A k).Pairwise (fun x y => x.nm = y.nm → x.t ≠ y.t) := h1.filter _
    have h3 := gr_up a2 k
    rw [asc_lt]
    refine List.Pairwise.imp₂ (R := fun x y => x.t ≤ y.t ∧ x.nm = k ∧ y.nm = k) (fun _ _ a b => ?_) ?_ h2
    · have := a.2.1.trans a.2.2.symm
      have := b this
      omega
    · refine List.Pairwise.imp_of_mem (fun {x y} hx hy h => ⟨h, ?_, ?_⟩) h3
      · exact of_decide_eq_true (List.mem_filter.1 hx).2
      · exact of_decide_eq_true (List.mem_filter.1 hy).2
  · exact ⟨rfl, b⟩
end Go.Proofs.YtejoabaanclcbaaGreat.Tk

