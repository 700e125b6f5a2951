/- Nodes, edges and cells as a surface, in plain numbers. -/
import Derived.Test.YtehehhehilgnkaaCelM
import Derived.Test.YtehehhehilgnkaaEdgM
namespace Go.Proofs.Ytehehhehilgnkaa.Lat

/-- Two ascending lists as one. -/
def mrg : Nat → List Nat → List Nat → List Nat
  | 0, a, b => a ++ b
  | _ + 1, [], b => b
  | _ + 1, a, [] => a
  | k + 1, x :: a, y :: b => bif Nat.ble x y then x :: mrg k a (y :: b) else y :: mrg k (x :: a) b
theorem mrg_perm : ∀ (k : Nat) (a b : List Nat), (mrg k a b).Perm (a ++ b)
  | 0, a, b => List.Perm.refl _
  | _ + 1, [], b => List.Perm.refl _
  | _ + 1, x :: a, [] => by simp [mrg]
  | k + 1, x :: a, y :: b => by
    unfold mrg
    cases Nat.ble x y
    · exact ((mrg_perm k (x :: a) b).cons y).trans (List.perm_middle (a := y) (l₁ := x :: a) (l₂ := b)).symm
    · exact (mrg_perm k a (y :: b)).cons x
def mpass : List (List Nat) → List (List Nat)
  | a :: b :: r => mrg 100000 a b :: mpass r
  | l => l
theorem mpass_perm : ∀ l : List (List Nat), (mpass l).flatten.Perm l.flatten
  | [] => List.Perm.refl _
  | [_] => List.Perm.refl _
  | a :: b :: r => by
    unfold mpass
    simp only [List.flatten_cons]
    rw [← List.append_assoc]
    exact (mrg_perm _ a b).append (mpass_perm r)
def mrep : Nat → List (List Nat) → List (List Nat)
  | 0, l => l
  | k + 1, l => mrep k (mpass l)
theorem mrep_perm : ∀ (k : Nat) (l : List (List Nat)), (mrep k l).flatten.Perm l.flatten
  | 0, _ => List.Perm.refl _
  | k + 1, l => (mrep_perm k (mpass l)).trans (mpass_perm l)
theorem flat1 : ∀ l : List Nat, (l.map fun x => [x]).flatten = l
  | [] => rfl
  | x :: r => by rw [List.map_cons, List.flatten_cons, flat1 r]; rfl
/-- A list in order. -/
def msort (l : List Nat) : List Nat := (mrep 12 (l.map fun x => [x])).flatten
theorem msort_perm (l : List Nat) : (msort l).Perm l := by
  have := mrep_perm 12 (l.map fun x => [x])
  rw [flat1] at this
  exact this
def eqL : List Nat → List Nat → Bool
  | [], [] => true
  | x :: a, y :: b => Nat.beq x y && eqL a b
  | _, _ => false
theorem eqL_eq : ∀ {a b : List Nat}, eqL a b = true → a = b
  | [], [], _ => rfl
  | [], _ :: _, h => by cases h
  | _ :: _, [], h => by cases h
  | x :: a, y :: b, h => by
    unfold eqL at h
    rw [Bool.and_eq_true] at h
    rw [Nat.eq_of_beq_eq_true h.1, eqL_eq h.2]
/-- The ends of edges. -/
def ends (l : List (Nat × Nat)) : List Nat := l.flatMap fun p => [p.1, p.2]
def endsC (l : List Nat) : List Nat := l.flatMap fun c => [c / 1024, c % 1024]
def dgs (ad k : Nat) : List Nat := (List.range k).flatMap fun i => List.replicate (nbw ad i).length i
def chkD (ad k : Nat) (l : List Nat) : Bool := eqL (msort (endsC l)) (dgs ad k) && allR k (fun i => Nat.beq (nbw ad i).length 5 || Nat.beq (nbw ad i).length 6) && Nat.beq ((List.range k).countP fun i => Nat.beq (nbw ad i).length 5) 12
/-- The sides of the cells as numbers. -/
def sdc (t : Tr) : List Nat := [min t.1 t.2.1 * 1024 + max t.1 t.2.1, min t.2.1 t.2.2 * 1024 + max t.2.1 t.2.2, min t.1 t.2.2 * 1024 + max t.1 t.2.2]
def ctriD (x n f a b : Nat) : List Tr := if a + b + 1 < n then [upD x f a b, dnD x f a b] else [upD x f a b]
def clsD (x n : Nat) : List Tr := (List.range 20).flatMap fun f => (List.range n).flatMap fun a => (List.range (n - a)).flatMap (ctriD x n f a)
def twice (l : List Nat) : List Nat := l.flatMap fun e => [e, e]
def chkS (x n : Nat) (l : List Nat) : Bool := eqL (msort ((clsD x n).flatMap sdc)) (twice l)
theorem dd1 : chkD (AD 1) 12 (edW (AD 1) 12) = true := by decide +kernel
theorem ss1 : chkS (IX 1) 1 (edW (AD 1) 12) = true := by decide +kernel
theorem dd2 : chkD (AD 2) 42 (edW (AD 2) 42) = true := by decide +kernel
theorem ss2 : chkS (IX 2) 2 (edW (AD 2) 42) = true := by decide +kernel
theorem dd3 : chkD (AD 3) 92 (edW (AD 3) 92) = true := by decide +kernel
theorem ss3 : chkS (IX 3) 3 (edW (AD 3) 92) = true := by decide +kernel
theorem dd4 : chkD (AD 4) 162 (edW (AD 4) 162) = true := by decide +kernel
theorem ss4 : chkS (IX 4) 4 (edW (AD 4) 162) = true := by decide +kernel
theorem dd5 : chkD (AD 5) 252 (edW (AD 5) 252) = true := by decide +kernel
theorem ss5 : chkS (IX 5) 5 (edW (AD 5) 252) = true := by decide +kernel
theorem five_of {n : Nat} (h1 : 1 ≤ n) (h5 : n ≤ 5) : n = 1 ∨ n = 2 ∨ n = 3 ∨ n = 4 ∨ n = 5 := by omega
theorem dd_all {n : Nat} (h1 : 1 ≤ n) (h5 : n ≤ 5) : chkD (AD n) (10 * n * n + 2) (edW (AD n) (10 * n * n + 2)) = true := by
  rcases five_of h1 h5 with rfl | rfl | rfl | rfl | rfl
  · exact dd1
  · exact dd2
  · exact dd3
  · exact dd4
  · exact dd5
theorem ss_all {n : Nat} (h1 : 1 ≤ n) (h5 : n ≤ 5) : chkS (IX n) n (edW (AD n) (10 * n * n + 2)) = true := by
  rcases five_of h1 h5 with rfl | rfl | rfl | rfl | rfl
  · exact ss1
  · exact ss2
  · exact ss3
  · exact ss4
  · exact ss5
theorem fm_congr {α β : Type} {f g : α → List β} : ∀ {l : List α}, (∀ a ∈ l, f a = g a) → l.flatMap f = l.flatMap g
  | [], _ => rfl
  | x :: r, h => by rw [List.flatMap_cons, List.flatMap_cons, h x (by simp), fm_congr (fun a ha => h a (by simp [ha]))]
theorem cls_D {n : Nat} (h : frq n) : cls n 20 = clsD (IX n) n := by
  unfold cls cface crow clsD
  refine fm_congr (fun f hf => fm_congr (fun a ha => fm_congr (fun b hb => ?_)))
  rw [List.mem_range] at hf ha hb
  unfold ctri ctriD
  by_cases e : a + b + 1 < n
  · rw [if_pos e, if_pos e, up_D h hf (by omega), dn_D h hf e]
  · rw [if_neg e, if_neg e, up_D h hf (by omega)]
end Go.Proofs.Ytehehhehilgnkaa.Lat
