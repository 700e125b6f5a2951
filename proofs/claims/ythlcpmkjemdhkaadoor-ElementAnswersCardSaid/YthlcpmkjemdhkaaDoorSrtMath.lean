/- Permutations of a good list and Validate's answer; append to an owned row as one step of a drawn region. -/
import Derived.Test.YthlcpmkjemdhkaaDoorOrd
import Derived.Deep.RegionLawGrows
import Derived.Deep.RegionHeld3
import Derived.Laws.OwnMore
namespace Go.Proofs.YthlcpmkjemdhkaaDoor
open Go.RowKit

def gtR (M : List Elt.R) (k : Int) : Elt.R := M.getD k.toNat (0, 0)
/-- The list in another order. -/
def prm (M : List Elt.R) (P : List Int) : List Elt.R := P.map (gtR M)
theorem prm_upto (M : List Elt.R) : prm M (upto M.length) = M := by
  unfold prm upto
  rw [List.map_map]
  refine List.ext_getElem (by simp) (fun i h1 h2 => ?_)
  simp only [List.getElem_map, List.getElem_range, Function.comp_apply]
  unfold gtR
  rw [Int.toNat_natCast, List.getD_eq_getElem?_getD, List.getElem?_eq_getElem h2]
  rfl
theorem mem_upto {n : Nat} {k : Int} : k ∈ upto n ↔ 0 ≤ k ∧ k < n := by
  unfold upto
  rw [List.mem_map]
  constructor
  · rintro ⟨j, hj, rfl⟩
    have := List.mem_range.1 hj
    omega
  · rintro ⟨h1, h2⟩
    exact ⟨k.toNat, List.mem_range.2 (by omega), by omega⟩
theorem upto_pw (n : Nat) : (upto n).Pairwise (fun a b : Int => a < b) := by
  unfold upto
  rw [List.pairwise_map]
  exact List.pairwise_lt_range.imp (fun {a b} h => by omega)
theorem gtR_lt {M : List Elt.R} {k : Int} (h : 0 ≤ k ∧ k < M.length) : ∃ hk : k.toNat < M.length, gtR M k = M[k.toNat] := by
  have hk : k.toNat < M.length := by omega
  exact ⟨hk, by unfold gtR; rw [List.getD_eq_getElem?_getD, List.getElem?_eq_getElem hk]; rfl⟩
theorem prm_val {c : Int} {M : List Elt.R} {P : List Int} (hG : Good c M) (hp : P.Perm (upto M.length)) : ∀ r ∈ prm M P, Elt.Val r.1 r.2 := by
  intro r hr
  obtain ⟨k, hk, rfl⟩ := List.mem_map.1 hr
  obtain ⟨h1, e⟩ := gtR_lt (mem_upto.1 (hp.mem_iff.1 hk))
  rw [e]
  exact hG.val _ (List.getElem_mem _)
theorem prm_asc {c : Int} {M : List Elt.R} {P : List Int} (hG : Good c M) (hp : P.Perm (upto M.length)) (ha : Elt.Asc (prm M P)) : P = upto M.length := by
  have h1 := asc_pw ha
  unfold prm at h1
  rw [List.pairwise_map] at h1
  have hM := asc_pw hG.asc
  have h2 : P.Pairwise (fun a b : Int => a < b) := by
    refine h1.imp_of_mem (fun {a b} ham hbm hlt => ?_)
    have qa := mem_upto.1 (hp.mem_iff.1 ham)
    have qb := mem_upto.1 (hp.mem_iff.1 hbm)
    obtain ⟨ka, ea⟩ := gtR_lt qa
    obtain ⟨kb, eb⟩ := gtR_lt qb
    rw [ea, eb] at hlt
    rcases Int.lt_trichotomy a b with q | q | q
    · exact q
    · subst q; exact absurd hlt (Int.lt_irrefl _)
    · have := List.pairwise_iff_getElem.1 hM b.toNat a.toNat kb ka (by omega)
      exact absurd (Int.lt_trans hlt this) (Int.lt_irrefl _)
  refine List.Perm.eq_of_pairwise (le := fun a b : Int => a < b) (fun a b _ _ q1 q2 => absurd (Int.lt_trans q1 q2) (Int.lt_irrefl _)) h2 (upto_pw _) hp
theorem prm_vld {c : Int} {M : List Elt.R} {P : List Int} (hG : Good c M) (hp : P.Perm (upto M.length)) : Elt.vld (prm M P) = if P = upto M.length then 0 else 8 := by
  by_cases h : P = upto M.length
  · rw [if_pos h, h, prm_upto]; exact hG.vld
  · rw [if_neg h]
    exact (Elt.vld_good (prm_val hG hp)).2 (fun ha => h (prm_asc hG hp ha))
/-- The list with one reading twice. -/
def dbl (M : List Elt.R) (k : Nat) (x : Elt.R) : List Elt.R := M.take (k + 1) ++ [x] ++ M.drop (k + 1)
theorem dbl_vld {c : Int} {M : List Elt.R} {k : Nat} (hG : Good c M) (h : k < M.length) : Elt.vld (dbl M k M[k]) = 8 := by
  refine (Elt.vld_good (fun r hr => ?_)).2 (fun ha => ?_)
  · unfold dbl at hr
    rcases List.mem_append.1 hr with hr | hr
    · rcases List.mem_append.1 hr with hr | hr
      · exact hG.val r (List.mem_of_mem_take hr)
      · obtain rfl := List.mem_singleton.1 hr
        exact hG.val _ (List.getElem_mem _)
    · exact hG.val r (List.mem_of_mem_drop hr)
  · have hl : (dbl M k M[k]).length = M.length + 1 := by unfold dbl; simp; omega
    have h1 := ha k (by omega)
    have e0 : (dbl M k M[k])[k]'(by omega) = M[k] := by
      have : (dbl M k M[k])[k]? = some M[k] := by
        unfold dbl
        rw [List.append_assoc, List.getElem?_append_left (by rw [List.length_take]; omega), List.getElem?_take_of_lt (by omega), List.getElem?_eq_getElem h]
      exact (List.getElem?_eq_some_iff.1 this).2
    have e1 : (dbl M k M[k])[k + 1]'(by omega) = M[k] := by
      have : (dbl M k M[k])[k + 1]? = some M[k] := by
        unfold dbl
        rw [List.append_assoc, List.getElem?_append_right (by rw [List.length_take]; omega), List.length_take, show k + 1 - min (k + 1) M.length = 0 by omega]
        rfl
      exact (List.getElem?_eq_some_iff.1 this).2
    rw [e0, e1] at h1
    exact absurd h1 (Int.lt_irrefl _)
/-- One step of the loop's flag. -/
theorem flag_step {P : List Int} {j : Nat} (h : j < P.length) : decide (P.take (j + 1) = upto (j + 1)) = (decide (P.take j = upto j) && decide ((j : Int) = P[j])) := by
  rw [List.take_succ_eq_append_getElem h, upto_succ]
  have hl : (P.take j).length = (upto j).length := by rw [List.length_take, upto_len]; omega
  by_cases h1 : P.take j = upto j
  · by_cases h2 : (j : Int) = P[j]
    · rw [decide_eq_true h1, decide_eq_true h2]
      exact decide_eq_true (by rw [h1, ← h2])
    · rw [decide_eq_true h1, decide_eq_false h2]
      exact decide_eq_false (fun e => h2 (by have := (List.append_inj e hl).2; injection this with this _; exact this.symm))
  · rw [decide_eq_false h1]
    exact decide_eq_false (fun e => h1 (List.append_inj e hl).1)
theorem prm_snoc (M : List Elt.R) {P : List Int} {j : Nat} (h : j < P.length) : prm M (P.take (j + 1)) = prm M (P.take j) ++ [gtR M P[j]] := by
  unfold prm
  rw [List.take_succ_eq_append_getElem h, List.map_append]
  rfl
theorem rdc_app (A B : List Elt.R) : rdc (A ++ B) = rdc A ++ rdc B := by simp [rdc]
theorem rdc_len : ∀ (L : List Elt.R), (rdc L).length = L.length * 2
  | [] => rfl
  | x :: r => by
    have e : rdc (x :: r) = .int .i64 x.1 :: .int .i64 x.2 :: rdc r := rfl
    rw [e, List.length_cons, List.length_cons, rdc_len r, List.length_cons]; omega
theorem rdc_one (L : List Elt.R) : ∀ u ∈ rdc L, u.oneCell' = true := by
  intro u hu
  obtain ⟨x, -, hx⟩ := List.mem_flatMap.1 hu
  unfold encR at hx
  rcases List.mem_cons.1 hx with rfl | hx
  · rfl
  · obtain rfl := List.mem_singleton.1 hx
    rfl
/-- Where a list's cells lie. -/
def CellsAt (w : World) (g off : Nat) (L : List Elt.R) : Prop := g < w.heap.size ∧ ∀ (j : Nat) (u : Value), (rdc L)[j]? = some u → w.cell? ⟨g, off + j, none⟩ = some u
theorem CellsAt.under {w w' : World} {g off : Nat} {L : List Elt.R} (h : CellsAt w g off L) (hb : Below w.heap.size w w') : CellsAt w' g off L :=
  ⟨Nat.lt_of_lt_of_le h.1 hb.size, fun j u hu => (hb.cell (p := ⟨g, off + j, none⟩) h.1).trans (h.2 j u hu)⟩
theorem CellsAt.of {w : World} {g off : Nat} {L : List Elt.R} (hg : g < w.heap.size) (h : ∀ i (h : i < L.length), w.cell? ⟨g, off + i * 2, none⟩ = some (.int .i64 (L[i]).1) ∧ w.cell? ⟨g, off + i * 2 + 1, none⟩ = some (.int .i64 (L[i]).2)) : CellsAt w g off L := by
  refine ⟨hg, fun j u hu => ?_⟩
  have hj := (List.getElem?_eq_some_iff.1 hu).1
  rw [rdc_len] at hj
  have hi : j / 2 < L.length := by omega
  obtain ⟨c0, c1⟩ := h (j / 2) hi
  obtain ⟨r0, r1⟩ := rdc_at L (j / 2) hi
  rcases (by omega : j = j / 2 * 2 ∨ j = j / 2 * 2 + 1) with e | e
  · rw [e] at hu ⊢
    rw [r0] at hu
    injection hu with hu
    rw [c0, hu]
  · rw [e] at hu ⊢
    rw [r1] at hu
    injection hu with hu
    rw [← Nat.add_assoc, c1, hu]
theorem CellsAt.take {w : World} {g off : Nat} {L : List Elt.R} (h : CellsAt w g off L) (k : Nat) : CellsAt w g off (L.take k) := by
  refine ⟨h.1, fun j u hu => h.2 j u ?_⟩
  have e := rdc_app (L.take k) (L.drop k)
  rw [List.take_append_drop] at e
  rw [e, List.getElem?_append_left (List.getElem?_eq_some_iff.1 hu).1]
  exact hu
theorem CellsAt.drop {w : World} {g off : Nat} {L : List Elt.R} (h : CellsAt w g off L) (k : Nat) (hk : k ≤ L.length) : CellsAt w g (off + k * 2) (L.drop k) := by
  refine ⟨h.1, fun j u hu => ?_⟩
  have e := rdc_app (L.take k) (L.drop k)
  rw [List.take_append_drop] at e
  have hl : (rdc (L.take k)).length = k * 2 := by rw [rdc_len, List.length_take]; omega
  rw [Nat.add_assoc]
  refine h.2 _ u ?_
  rw [e, List.getElem?_append_right (by omega), hl, Nat.add_sub_cancel_left]
  exact hu
theorem CellsAt.adds {w : World} {g off : Nat} {L : List Elt.R} (h : CellsAt w g off L) : ∀ (j : Nat) (u : Value), (rdc L)[j]? = some u → w.cell? ((⟨g, off, none⟩ : Addr).add j) = some u := fun j u hu => by
  rw [Addr.add_lit]
  exact h.2 j u hu
theorem CellsAt.kept {w w' : World} {g off : Nat} {L : List Elt.R} {r : Option Nat} (h : CellsAt w g off L) (hg : w.grownBy w' r) (hr : r ≠ some g) : CellsAt w' g off L := by
  have hb := hg.block g h.1 (Ne.symm hr)
  refine ⟨Nat.lt_of_lt_of_le h.1 hg.size, fun j u hu => ?_⟩
  rw [← h.2 j u hu]
  unfold World.cell?
  rw [show (⟨g, off + j, none⟩ : Addr).block = g from rfl, hb]
theorem CellsAt.new (w : World) (x : Elt.R) : CellsAt (w.alloc (.cells #[.int .i64 x.1, .int .i64 x.2] 47)) w.heap.size 0 [x] := by
  have r := Row.new w #[.int .i64 x.1, .int .i64 x.2] 47
  obtain ⟨c0, c1⟩ := row2 r
  refine CellsAt.of r.lt (fun i hi => ?_)
  have hi' : i < 1 := hi
  obtain rfl : i = 0 := by omega
  exact ⟨c0, c1⟩
/-- The cells behind the k-th, wherever the slice of nothing points to. -/
theorem CellsAt.rest {w : World} {g off cap k : Nat} {M : List Elt.R} (h : CellsAt w g off M) (hc : M.length ≤ cap) (hk : k < M.length) : ∀ (j : Nat) (u : Value), (rdc (M.drop (k + 1)))[j]? = some u → w.cell? ((if cap = k + 1 then (⟨g, off, none⟩ : Addr) else ⟨g, off + (k + 1) * 2, none⟩).add j) = some u := by
  intro j u hu
  by_cases hq : cap = k + 1
  · have : M.drop (k + 1) = [] := List.drop_eq_nil_of_le (by omega)
    rw [this] at hu
    simp [rdc] at hu
  · rw [if_neg hq]
    exact (h.drop (k + 1) (by omega)).adds j u hu
theorem Wt.drew {W w : World} {M : List Elt.R} {u : Value} (h : Wt W M u w) : Wt W M u w.drew := ⟨h.below.trans ⟨rfl, rfl, rfl, Nat.le_refl _, fun _ _ => rfl⟩, h.own⟩
theorem Wt.lit {W X : World} (hb : Below W.heap.size W X) : Wt W [] (.slice (some ⟨X.heap.size, 0, none⟩) 0 0) (X.alloc (.cells #[] 47)) :=
  ⟨hb.alloc hb.size _, World.ownsRow_lit X #[] 0 hb.size (by decide) rfl⟩
theorem genH {P : Program} {ops : Array Oper} {Q : Exit → Act → World → Prop} {md : Region.Mode} {S : World → Prop} {fuel : Nat} {listed : Array Bool} {a : Act} {w : World} (R : World → Prop) (h : R w)
    (hK : ∀ X, R X → wpAnyH P md ops Q S fuel listed a X) : wpAnyH P md ops Q S fuel listed a w := hK w h
theorem Wt.app {W w w' : World} {M N : List Elt.R} {u v : Value} {m : Nat} (h : Wt W M u w) (hm : N.length = m)
    (hown : w'.ownsRow W.heap.size 47 2 v (M.length + m) (rdc M ++ rdc N)) (hg : w.grownBy w' u.ownBlock) : Wt W (M ++ N) v w' :=
  ⟨below_own h.below h.below.size h.own hg, by rw [rdc_app, List.length_append, hm]; exact hown⟩
/-- APPEND TO AN OWNED ROW, NOTHING OR MORE, AS ONE STEP OF A DRAWN REGION. -/
theorem step_append_own {P : Program} {ops : Array Oper} {o : Oper} {a : Act} {w : World} {K : Act → World → Prop} {Q : Exit → Act → World → Prop} {E : Prop} (hgd : o.guard = none) (s x : Operand) (t : TypeId)
    (ho : o.op = .call { callee := .builtin .append, args := #[s, x], argTypes := #[t, t] })
    (base : Nat) (e : TypeId) (i : TypeInfo) (z : Value) (size bytes : Nat) (ht : P.underlying t = some (.slice e)) (hi : P.info? e = some i) (hz : i.zero = some z)
    (hsize : i.size = size) (hby : i.bytes = bytes) (hzs : z.cells.size = size) (hsz : 0 < size)
    (v : Value) (n : Nat) (xs : List Value) (hs : a.eval s = v) (hown : w.ownsRow base e size v n xs)
    (ad : Addr) (m c : Nat) (news : List Value) (hx : a.eval x = .slice (some ad) m c) (hl : news.length = m * size) (hnews : ∀ j u, news[j]? = some u → w.cell? (ad.add j) = some u) (h1 : ∀ u ∈ news, u.oneCell' = true)
    (h63 : n + m ≤ maxLen) (hbytes : (n + m) * bytes ≤ 140737488355328) (hbase : base ≤ w.heap.size)
    (h : ∀ v' w', w'.ownsRow base e size v' (n + m) (xs ++ news) → w.grownBy w' v.ownBlock → K (a.put o.dst v') w') :
    if Region.wanted o (yielded ops a.tmps) = true then Oper.wp P o a w K Q else E := by
  have hw : Region.wanted o (yielded ops a.tmps) = true := by simp [Region.wanted, hgd]
  rw [if_pos hw]
  obtain ⟨v', w', hr, h2, h3, -⟩ := run_append_own (P := P) w base t o.type e i z size bytes ht hi hz hsize hby hzs hsz v n xs hown ad m c news hl hnews h1 h63 hbytes hbase
  unfold Oper.wp execOp
  simp only [ho, resolve, invoke, builtin, Sem.run_bind, Sem.run_pure, Result.andThen_ok, List.map_toArray, List.map_cons, List.map_nil, hs, hx, hr]
  exact h v' w' h2 h3
end Go.Proofs.YthlcpmkjemdhkaaDoor
