/- The nodes of a grid in the grid of twice its frequency, in plain numbers. -/
import Derived.Test.YtehehhehilgnkaaEdgM
import Derived.Test.YtehehhehilgnkaaNode
namespace Go.Proofs.Ytehehhehilgnkaa
open Lat

/-- The index of a node in the finer grid. -/
def fin2 (n m k : Nat) : Nat := idx m (nd n k).1 (2 * (nd n k).2.1) (2 * (nd n k).2.2)
def fin2D (x n k : Nat) : Nat := dg x (off (nd n k).1 (2 * (nd n k).2.1) (2 * (nd n k).2.2))
def chkF (x ad n : Nat) : Bool := (edg n).all fun p => !Nat.beq (fin2D x n p.1) (fin2D x n p.2) && !mb (fin2D x n p.2) (nbw ad (fin2D x n p.1)) && (nbw ad (fin2D x n p.1)).any fun c => mb (fin2D x n p.2) (nbw ad c)
theorem ff1 : chkF (IX 2) (AD 2) 1 = true := by decide +kernel
theorem ff2 : chkF (IX 4) (AD 4) 2 = true := by decide +kernel
theorem mb_not {y : Nat} : ∀ {l : List Nat}, mb y l = false → y ∉ l
  | [], _ => by simp
  | x :: r, h => by
    unfold mb at h
    rw [Bool.or_eq_false_iff] at h
    rw [List.mem_cons]
    rintro (rfl | h2)
    · have := h.1; simp at this
    · exact mb_not h.2 h2
theorem two_of {n : Nat} (h1 : 1 ≤ n) (h2 : n ≤ 2) : n = 1 ∨ n = 2 := by omega
theorem two_wd {n m a : Nat} (h1 : 1 ≤ n) (h2 : n ≤ 2) (hm : m = 2 * n) (ha : a ≤ n) : rs m (wd n a) = 0 ∧ xa m (wd n a) = 2 * a := by
  subst hm
  rcases two_of h1 h2 with rfl | rfl <;> (simp only [rs, xa, wd]; simp; omega)
section
variable {n m : Nat} (h1 : 1 ≤ n) (h2 : n ≤ 2) (hm : m = 2 * n)
include h1 h2 hm
theorem fin2_D {k : Nat} (hk : k < cn n) : fin2 n m k = fin2D (IX m) n k := by
  have hn : frq n := ⟨h1, by omega⟩
  obtain ⟨a, b, -⟩ := nd_in hn hk
  exact idx_dg (show frq m by unfold frq; omega) a (by omega)
theorem fin2_lt {k : Nat} (hk : k < cn n) : fin2 n m k < cn m := by
  have hn : frq n := ⟨h1, by omega⟩
  obtain ⟨a, b, -⟩ := nd_in hn hk
  exact idx_lt2 (show frq m by unfold frq; omega) a (by omega)
theorem fin2_dist {a b : Nat} (h : (a, b) ∈ edg n) : Dist m (fin2 n m a) (fin2 n m b) 2 := by
  have hn : frq n := ⟨h1, by omega⟩
  have hmf : frq m := by unfold frq; omega
  obtain ⟨ha, hb, hab⟩ := edg_mem.1 h
  have hb' := (nbs_in hn ha hb).1
  have hc : chkF (IX m) (AD m) n = true := by
    subst hm
    rcases two_of h1 h2 with rfl | rfl
    · exact ff1
    · exact ff2
  have := List.all_eq_true.1 hc (a, b) h
  simp only [Bool.and_eq_true, Bool.not_eq_true'] at this
  obtain ⟨⟨c1, c2⟩, c3⟩ := this
  rw [← fin2_D h1 h2 hm ha, ← fin2_D h1 h2 hm hb'] at c1 c2 c3
  obtain ⟨c, d1, d2⟩ := List.any_eq_true.1 c3
  have hla := fin2_lt h1 h2 hm ha
  obtain ⟨d, hd⟩ := dist_all hmf hla (fin2_lt h1 h2 hm hb')
  have e2 : d = 2 := dist_two hmf hla hd (fun e => by rw [e] at c1; simp at c1) (mb_not c2) d1 (mb_mem d2)
  rw [← e2]; exact hd
theorem fin2_place {k : Nat} (hk : k < cn n) : rs m (wd n (nd n k).2.1) = 0 ∧ rs m (wd n (nd n k).2.2) = 0 ∧ rs m (wd n (n - (nd n k).2.1 - (nd n k).2.2)) = 0 ∧ idx m (nd n k).1 (xa m (wd n (nd n k).2.1)) (xa m (wd n (nd n k).2.2)) = fin2 n m k ∧
    loc m (nd n k).1 (wd n (nd n k).2.1) (wd n (nd n k).2.2) (wd n (n - (nd n k).2.1 - (nd n k).2.2)) = [(fin2 n m k, 840)] := by
  have hn : frq n := ⟨h1, by omega⟩
  obtain ⟨a1, a2, -⟩ := nd_in hn hk
  have a := two_wd h1 h2 hm (show (nd n k).2.1 ≤ n by omega)
  have b := two_wd h1 h2 hm (show (nd n k).2.2 ≤ n by omega)
  have c := two_wd h1 h2 hm (show n - (nd n k).2.1 - (nd n k).2.2 ≤ n by omega)
  refine ⟨a.1, b.1, c.1, by rw [a.2, b.2]; rfl, ?_⟩
  unfold loc tri
  rw [a.1, b.1, c.1, if_pos (by omega), a.2, b.2]
  simp [shl, srt, ins, fin2]
end
end Go.Proofs.Ytehehhehilgnkaa
