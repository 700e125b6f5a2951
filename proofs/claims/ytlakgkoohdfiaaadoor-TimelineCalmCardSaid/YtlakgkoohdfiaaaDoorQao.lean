/- Texts of this proof. -/
import Derived.Test.YtlakgkoohdfiaaaDoorQan
import Derived.Test.YtlakgkoohdfiaaaDoorTmK
import Derived.Test.YtlakgkoohdfiaaaDoorQal
import Derived.Maps.AppendAt
namespace Go.Proofs.YtlakgkoohdfiaaaDoor.Tm
open Go.RowKit Go.Maps Go.ChangeMaps

/-- APPEND TO AN OWNED ROW, FOR THE WALK, with where the new row lies. -/
theorem wpList_append_at {P : Program} {ops : Array Oper} {rest : List Oper} {o : Oper} {a : Act} {w : World} {Q : Exit → Act → World → Prop} (hgd : o.guard = none) (s x : Operand) (t : TypeId)
    (ho : o.op = .call { callee := .builtin .append, args := #[s, x], argTypes := #[t, t] })
    (base : Nat) (e : TypeId) (i : TypeInfo) (z : Value) (size bytes : Nat) (ht : P.underlying t = some (.slice e)) (hi : P.info? e = some i) (hz : i.zero = some z)
    (hsize : i.size = size) (hby : i.bytes = bytes) (hzs : z.cells.size = size) (hsz : 0 < size)
    (v : Value) (n : Nat) (xs : List Value) (hs : a.eval s = v) (hown : w.ownsRow base e size v n xs)
    (ad : Addr) (m c : Nat) (news : List Value) (hx : a.eval x = .slice (some ad) m c) (hl : news.length = m * size) (hnews : ∀ j u, news[j]? = some u → w.cell? (ad.add j) = some u) (h1 : ∀ u ∈ news, u.oneCell' = true)
    (h63 : n + m ≤ maxLen) (hbytes : (n + m) * bytes ≤ 140737488355328) (hbase : base ≤ w.heap.size)
    (h : ∀ v' w', w'.ownsRow base e size v' (n + m) (xs ++ news) → w.grownBy w' v.ownBlock → (v'.ownBlock = v.ownBlock ∨ v'.ownBlock = some w.heap.size) → wpList P ops Q rest (a.put o.dst v') w') : wpList P ops Q (o :: rest) a w := by
  refine wpList_plain hgd fun _ hK => ?_
  obtain ⟨v', w', hr, h2, h3, -, h5⟩ := run_append_own_at (P := P) w base t o.type e i z size bytes ht hi hz hsize hby hzs hsz v n xs hown ad m c news hl hnews h1 h63 hbytes hbase
  unfold Oper.wp execOp
  simp only [ho, resolve, invoke, builtin, Sem.run_bind, Sem.run_pure, Result.andThen_ok, List.map_toArray, List.map_cons, List.map_nil, hs, hx, hr]
  exact hK _ _ (h v' w' h2 h3 h5)
/-- Block b is a map of lines: g says which points stand at a key; the rows are their own. -/
structure Gm (w0 : World) (n : Nat) (g : Ke → List Pt) (b : Nat) (f : Ke → Option Value) (Y : World) : Prop where
  below : Below w0.heap.size w0 Y
  map : Ow.Ms Y b n f
  new : w0.heap.size ≤ b
  rows : ∀ k v, f k = some v → Y.ownsRow w0.heap.size 137 3 v (g k).length (rc ptE (g k)) ∧ 0 < (g k).length
  nil : ∀ k, f k = none → g k = []
  apart : ∀ k k' v v', k ≠ k' → f k = some v → f k' = some v' → v.ownBlock ≠ v'.ownBlock
  ok : ∀ k v, f k = some v → KeOk k
theorem own_pos {w : World} {base size n : Nat} {e : TypeId} {v : Value} {xs : List Value} (h : w.ownsRow base e size v n xs) (hn : 0 < n) : ∃ g, v.ownBlock = some g ∧ base ≤ g ∧ g < w.heap.size := by
  rcases h.2 with ⟨-, h0⟩ | ⟨g, cap, cur, rfl, h1, h2, h3⟩
  · omega
  · exact ⟨g, rfl, h1, (Array.getElem?_eq_some_iff.1 h2).1⟩
theorem Gm.made (w0 : World) : Gm w0 0 (fun _ => []) w0.heap.size (fun _ => Option.none) (w0.alloc (.map #[] 0)) where
  below := (Below.refl _ _).alloc (Nat.le_refl _) _
  map := Ow.Ms.made w0
  new := Nat.le_refl _
  rows := fun k v h => by cases h
  nil := fun k _ => rfl
  apart := fun k k' v v' _ h => by cases h
  ok := fun k v h => by cases h
section
variable {w0 Y Y' Y1 Y2 : World} {n : Nat} {g : Ke → List Pt} {b : Nat} {f : Ke → Option Value}
theorem Gm.under (h : Gm w0 n g b f Y) (hb : Below Y.heap.size Y Y') : Gm w0 n g b f Y' where
  below := h.below.trans (hb.mono h.below.size)
  map := h.map.kept (row := Option.none) (grown_below hb) (by simp)
  new := h.new
  rows := fun k v e => ⟨El.own_under (h.rows k v e).1 hb, (h.rows k v e).2⟩
  nil := h.nil
  apart := h.apart
  ok := h.ok
/-- What stands at a key, or nothing. -/
theorem Gm.at_ (h : Gm w0 n g b f Y) (k : Ke) : Y.ownsRow w0.heap.size 137 3 ((f k).getD (.slice none 0 0)) (g k).length (rc ptE (g k)) := by
  cases hf : f k with
  | none => rw [h.nil k hf]; exact ⟨rfl, .inl ⟨rfl, rfl⟩⟩
  | some v => exact (h.rows k v hf).1
/-- A point is appended to its key's row, and the row is laid into the map. -/
theorem Gm.step (h : Gm w0 n g b f Y) (key : Ke) (hok : KeOk key) (x : Pt) {v' : Value} {n' : Nat} (ho : Y1.ownsRow w0.heap.size 137 3 v' ((g key).length + 1) (rc ptE (g key) ++ ptE x)) (hg0 : ∃ Ym, Y.grownBy Ym (some b) ∧ Ym.grownBy Y1 ((f key).getD (.slice Option.none 0 0)).ownBlock)
    (hnew : v'.ownBlock = ((f key).getD (.slice Option.none 0 0)).ownBlock ∨ ∃ j, v'.ownBlock = some j ∧ Y.heap.size ≤ j)
    (hm : Ow.Ms Y2 b n' (fun k => if k = key then some v' else f k)) (hg2 : Y1.grownBy Y2 (some b)) : Gm w0 n' (fun k => if k = key then g k ++ [x] else g k) b (fun k => if k = key then some v' else f k) Y2 := by
  obtain ⟨Ym, ga, gb⟩ := hg0
  have hbY : b < Y.heap.size := h.map.lt
  have hbo : ∀ {size k : Nat} {e : TypeId} {v : Value} {xs : List Value}, Y.ownsRow w0.heap.size e size v k xs → Ym.ownsRow w0.heap.size e size v k xs := fun {_ _ _ v _} hv =>
    own_heap hv fun i hi => ga.block i (row_size hv hi) (fun e => h.map.ne_own hv (by rw [hi, e]))
  have hYm : Below w0.heap.size w0 Ym := h.below.grown ga h.below.size (fun i e => by injection e with e; have := h.new; omega)
  have hY1 : Below w0.heap.size w0 Y1 := hYm.grown gb hYm.size (fun i e => row_base (h.at_ key) e)
  have keep1 : ∀ {size k : Nat} {e : TypeId} {v : Value} {xs : List Value}, Y.ownsRow w0.heap.size e size v k xs → v.ownBlock ≠ ((f key).getD (.slice Option.none 0 0)).ownBlock ∨ v.ownBlock = none → Y1.ownsRow w0.heap.size e size v k xs := fun {_ _ _ v _} hv hne =>
    own_heap (hbo hv) fun i hi => gb.block i (row_size (hbo hv) hi) (fun e => hne.elim (fun q => q (by rw [hi, e])) (fun q => by rw [q] at hi; cases hi))
  have keep2 : ∀ {size k : Nat} {e : TypeId} {v : Value} {xs : List Value}, Y1.ownsRow w0.heap.size e size v k xs → v.ownBlock ≠ some b → Y2.ownsRow w0.heap.size e size v k xs := fun {_ _ _ v _} hv hne =>
    own_heap hv fun i hi => hg2.block i (row_size hv hi) (fun e => hne (by rw [hi, e]))
  have hvb : v'.ownBlock ≠ some b := by
    rcases hnew with hn | ⟨j, hn, hge⟩
    · rw [hn]; exact fun e => h.map.ne_own (h.at_ key) e.symm
    · rw [hn]; intro e; injection e with e; omega
  have far : ∀ k v, k ≠ key → f k = some v → v'.ownBlock ≠ v.ownBlock := fun k v hk e hb => by
    obtain ⟨r1, r2⟩ := h.rows k v e
    obtain ⟨j, hj, -, hjl⟩ := own_pos r1 r2
    rcases hnew with hn | ⟨j', hn, hge⟩
    · cases hf : f key with
      | none => rw [hf] at hn; rw [hb, hj] at hn; cases hn
      | some u => rw [hf] at hn; exact h.apart k key v u hk e hf (by rw [← hb, hn]; rfl)
    · rw [hb, hj] at hn
      injection hn with hn
      omega
  refine ⟨hY1.grown hg2 hY1.size (fun i e => by injection e with e; have := h.new; omega), hm, h.new, fun k v e => ?_, fun k e => ?_, fun k k' v u hne e e' => ?_, fun k v e => ?_⟩
  · try dsimp only at e ⊢
    by_cases hk : k = key
    · subst hk
      rw [if_pos rfl] at e ⊢
      injection e with e; subst e
      rw [rc_app, List.length_append]
      exact ⟨keep2 ho hvb, by simp⟩
    · rw [if_neg hk] at e ⊢
      obtain ⟨r1, r2⟩ := h.rows k v e
      refine ⟨keep2 (keep1 r1 ?_) (fun q => h.map.ne_own r1 q.symm), r2⟩
      cases hf : f key with
      | none => left; intro q; obtain ⟨j, hj, -⟩ := own_pos r1 r2; rw [hj] at q; cases q
      | some u => left; exact h.apart k key v u hk e hf
  · try dsimp only at e ⊢
    by_cases hk : k = key
    · rw [if_pos hk] at e; cases e
    · rw [if_neg hk] at e ⊢
      exact h.nil k e
  · try dsimp only at e e'
    by_cases hk : k = key
    · rw [if_pos hk] at e
      injection e with e; subst e
      by_cases hk' : k' = key
      · exact absurd (hk.trans hk'.symm) hne
      · rw [if_neg hk'] at e'
        exact far k' u hk' e'
    · rw [if_neg hk] at e
      by_cases hk' : k' = key
      · rw [if_pos hk'] at e'
        injection e' with e'; subst e'
        exact (far k v hk e).symm
      · rw [if_neg hk'] at e'
        exact h.apart k k' v u hne e e'
  · try dsimp only at e
    by_cases hk : k = key
    · subst hk; exact hok
    · rw [if_neg hk] at e
      exact h.ok k v e
/-- The row of a key is put into another order. -/
theorem Gm.sort (h : Gm w0 n g b f Y) {key : Ke} {v : Value} {L' : List Pt} (hf : f key = some v) (hl : L'.length = (g key).length) (ho : Y1.ownsRow w0.heap.size 137 3 v L'.length (rc ptE L')) (hg : Y.grownBy Y1 v.ownBlock) :
    Gm w0 n (fun k => if k = key then L' else g k) b f Y1 := by
  have hv := (h.rows key v hf).1
  refine ⟨h.below.grown hg h.below.size (fun i e => row_base hv e), h.map.kept hg (h.map.ne_own hv), h.new, fun k u e => ?_, fun k e => ?_, h.apart, h.ok⟩
  · by_cases hk : k = key
    · subst hk
      rw [hf] at e
      injection e with e; subst e
      simp only [if_true]
      exact ⟨ho, by rw [hl]; exact (h.rows k v hf).2⟩
    · simp only [hk, if_false]
      obtain ⟨r1, r2⟩ := h.rows k u e
      refine ⟨own_heap r1 fun i hi => hg.block i (row_size r1 hi) (fun q => h.apart k key u v hk e hf (by rw [hi, q])), r2⟩
  · by_cases hk : k = key
    · subst hk; rw [hf] at e; cases e
    · simp only [hk, if_false]; exact h.nil k e
end
/-! The points that the reports give, in their order. -/
/-- What the first j readings of a report give. -/
def entR (i : Nat) (r : Rp) (j : Nat) : List (Ke × Pt) := (r.L.take j).map fun x => ((r.nm, x.1), ⟨x.2, r.t, i⟩)
def entK (Q : List Rp) : Nat → List (Ke × Pt)
  | 0 => []
  | k + 1 => entK Q k ++ (match Q[k]? with | none => [] | some r => entR k r r.L.length)
theorem entK_succ {Q : List Rp} {k : Nat} (h : k < Q.length) : entK Q (k + 1) = entK Q k ++ entR k Q[k] Q[k].L.length := by
  show entK Q k ++ _ = _
  rw [List.getElem?_eq_getElem h]
theorem entR_snoc {i : Nat} {r : Rp} {j : Nat} (h : j < r.L.length) : entR i r (j + 1) = entR i r j ++ [((r.nm, r.L[j].1), ⟨r.L[j].2, r.t, i⟩)] := by
  unfold entR
  rw [List.take_succ_eq_append_getElem h, List.map_append]; rfl
theorem entR_zero (i : Nat) (r : Rp) : entR i r 0 = [] := rfl
theorem entR_len (i : Nat) (r : Rp) (j : Nat) : (entR i r j).length ≤ r.L.length := by
  unfold entR
  rw [List.length_map, List.length_take]; omega
theorem entK_len {Q : List Rp} (h : ∀ r ∈ Q, r.L.length ≤ 40) : ∀ k, (entK Q k).length ≤ k * 40
  | 0 => Nat.le_refl _
  | k + 1 => by
    have ih := entK_len h k
    unfold entK
    rw [List.length_append]
    cases hq : Q[k]? with
    | none => simp; omega
    | some r =>
      have h1 := entR_len k r r.L.length
      have h2 := h r (List.mem_of_getElem? hq)
      dsimp only
      omega
/-- The points of a key. -/
def gr (E : List (Ke × Pt)) (k : Ke) : List Pt := (E.filter fun e => decide (e.1 = k)).map (·.2)
theorem gr_snoc (E : List (Ke × Pt)) (key : Ke) (x : Pt) : gr (E ++ [(key, x)]) = fun k => if k = key then gr E k ++ [x] else gr E k := by
  funext k
  unfold gr
  by_cases h : k = key
  · subst h; simp
  · have : ¬ key = k := fun e => h e.symm
    simp [this, h]
theorem gr_mem (E : List (Ke × Pt)) (k : Ke) (x : Pt) : x ∈ gr E k ↔ (k, x) ∈ E := by
  unfold gr
  rw [List.mem_map]
  constructor
  · rintro ⟨e, he, rfl⟩
    obtain ⟨h1, h2⟩ := List.mem_filter.1 he
    have := of_decide_eq_true h2
    rw [← this]; exact h1
  · intro h
    exact ⟨(k, x), List.mem_filter.2 ⟨h, by simp⟩, rfl⟩
theorem gr_len (E : List (Ke × Pt)) (k : Ke) : (gr E k).length ≤ E.length := by
  unfold gr
  rw [List.length_map]
  exact List.length_filter_le _ _
theorem entK_mem (Q : List Rp) (key : Ke) (x : Pt) : ∀ k, k ≤ Q.length → ((key, x) ∈ entK Q k ↔ ∃ h : x.i < Q.length, x.i < k ∧ Q[x.i].nm = key.1 ∧ Q[x.i].t = x.t ∧ (key.2, x.v) ∈ Q[x.i].L)
  | 0, _ => by simp [entK]
  | k + 1, hk => by
    have ih := entK_mem Q key x k (by omega)
    have hk' : k < Q.length := by omega
    rw [entK_succ hk', List.mem_append, ih]
    unfold entR
    rw [List.take_length, List.mem_map]
    constructor
    · rintro (⟨h, h1, h2⟩ | ⟨y, hy, e⟩)
      · exact ⟨h, by omega, h2⟩
      · injection e with e1 e2
        subst e1 e2
        exact ⟨hk', by show k < k + 1; omega, rfl, rfl, hy⟩
    · rintro ⟨h, h1, h2, h3, h4⟩
      rcases (by omega : x.i < k ∨ x.i = k) with q | q
      · exact .inl ⟨h, q, h2, h3, h4⟩
      · right
        obtain ⟨kn, kc⟩ := key
        obtain ⟨xv, xt, xi⟩ := x
        dsimp only at q h2 h3 h4 ⊢
        subst q
        exact ⟨(kc, xv), h4, by rw [h2, h3]⟩
end Go.Proofs.YtlakgkoohdfiaaaDoor.Tm

namespace Go.Proofs.YtlakgkoohdfiaaaDoor.Tm
open Go.RowKit Go.Maps

theorem fnd_mem : ∀ {L : List R} {c v : Int}, Asc' L → ((c, v) ∈ L ↔ fnd L c = some v)
  | [], c, v, _ => by simp [fnd, El.Elt.fnd]
  | x :: L, c, v, h => by
    have h' := List.pairwise_cons.1 h
    have ih := fnd_mem (L := L) (c := c) (v := v) h'.2
    unfold fnd El.Elt.fnd at ih ⊢
    by_cases hx : x.1 = c
    · rw [List.find?_cons_of_pos (by simpa using hx), Option.map_some, List.mem_cons]
      constructor
      · rintro (e | e)
        · rw [← e]
        · have := h'.1 _ e
          dsimp only at this
          omega
      · intro e
        injection e with e
        left
        rw [← hx, ← e]
    · rw [List.find?_cons_of_neg (by simpa using hx), List.mem_cons]
      constructor
      · rintro (e | e)
        · exact absurd (by rw [← e]) hx
        · exact ih.1 e
      · intro e; exact .inr (ih.2 e)
theorem gr_app (E E' : List (Ke × Pt)) (k : Ke) : gr (E ++ E') k = gr E k ++ gr E' k := by simp [gr]
theorem entR_one {i : Nat} {r : Rp} (h : Asc' r.L) (key : Ke) : (gr (entR i r r.L.length) key).Pairwise fun x y => x.i < y.i := by
  unfold gr entR
  rw [List.take_length]
  have h1 : ((r.L.map fun x => (((r.nm, x.1), ⟨x.2, r.t, i⟩) : Ke × Pt)).filter fun e => decide (e.1 = key)).Pairwise fun x y => x.1.2 < y.1.2 := by
    refine List.Pairwise.filter _ ?_
    rw [List.pairwise_map]
    exact h
  rw [List.pairwise_map]
  refine h1.imp_of_mem fun {a b} ha hb hab => ?_
  have e1 := of_decide_eq_true (List.mem_filter.1 ha).2
  have e2 := of_decide_eq_true (List.mem_filter.1 hb).2
  rw [e1, e2] at hab
  omega
theorem entK_asc {Q : List Rp} (ha : ∀ r ∈ Q, Asc' r.L) (key : Ke) : ∀ k, k ≤ Q.length → (gr (entK Q k) key).Pairwise fun x y => x.i < y.i
  | 0, _ => List.Pairwise.nil
  | k + 1, hk => by
    have hk' : k < Q.length := by omega
    rw [entK_succ hk', gr_app]
    refine List.pairwise_append.2 ⟨entK_asc ha key k (by omega), entR_one (ha _ (List.getElem_mem hk')) key, fun a hA b hB => ?_⟩
    obtain ⟨-, h1, -⟩ := (entK_mem Q key a k (by omega)).1 ((gr_mem _ _ _).1 hA)
    have h2 := (gr_mem _ _ _).1 hB
    unfold entR at h2
    obtain ⟨y, -, e⟩ := List.mem_map.1 h2
    injection e with _ e
    subst e
    exact h1
theorem gr_lin {Q : List Rp} (ha : ∀ r ∈ Q, Asc' r.L) (key : Ke) (x : Pt) : x ∈ gr (entK Q Q.length) key ↔ x ∈ lin Q key.1 key.2 := by
  rw [gr_mem, entK_mem Q key x _ (Nat.le_refl _), lin_mem]
  constructor
  · rintro ⟨h, -, h1, h2, h3⟩
    exact ⟨h, h1, h2, (fnd_mem (ha _ (List.getElem_mem h))).1 h3⟩
  · rintro ⟨h, h1, h2, h3⟩
    exact ⟨h, h, h1, h2, (fnd_mem (ha _ (List.getElem_mem h))).2 h3⟩
theorem lin_sorted {Q : List Rp} (ha : ∀ r ∈ Q, Asc' r.L) (hd : Dis Q) {key : Ke} {L' : List Pt} (hp : L'.Perm (gr (entK Q Q.length) key)) (hs : L'.Pairwise fun x y => ¬ cfP y x < 0) : L' = lin Q key.1 key.2 := by
  refine srt_ext ?_ (lin_srt hd _ _) fun x => by rw [hp.mem_iff, gr_lin ha]
  have hn : L'.Nodup := hp.nodup_iff.2 ((entK_asc ha key _ (Nat.le_refl _)).imp fun {a b} h e => by subst e; omega)
  have h2 := List.pairwise_and_iff.2 ⟨hs, hn⟩
  refine h2.imp_of_mem fun {a b} hA hB ⟨h1, h2⟩ => ?_
  have h3 : a.t ≤ b.t := by
    have := mt (cmpI_neg b.t a.t).2 h1
    omega
  rcases Int.lt_or_eq_of_le h3 with h4 | h4
  · exact h4
  · exfalso
    obtain ⟨i1, i2, i3, i4⟩ := (lin_mem _ _ _ _).1 ((gr_lin ha key a).1 (hp.mem_iff.1 hA))
    obtain ⟨j1, j2, j3, j4⟩ := (lin_mem _ _ _ _).1 ((gr_lin ha key b).1 (hp.mem_iff.1 hB))
    by_cases e : a.i = b.i
    · apply h2
      obtain ⟨av, at1, ai⟩ := a
      obtain ⟨bv, bt, bi⟩ := b
      dsimp only at *
      subst e h4
      rw [i4] at j4
      injection j4 with j4
      rw [j4]
    · exact hd a.i b.i i1 j1 e ⟨i2.trans j2.symm, by rw [i3, j3, h4]⟩
theorem vld_asc {L : List R} (h : El.Elt.vld L = 0) : Asc' L := by
  have hA : El.Elt.Asc L := by
    have := h
    unfold El.Elt.vld at this
    split at this
    · cases this
    · split at this
      · cases this
      · split at this
        · assumption
        · cases this
  unfold Asc'
  rw [List.pairwise_iff_getElem]
  intro i j hi hj hij
  have key : ∀ d, ∀ h : i + 1 + d < L.length, (L[i]).1 < (L[i + 1 + d]).1 := by
    intro d
    induction d with
    | zero => intro h; exact hA i h
    | succ d ih => intro h; exact Int.lt_trans (ih (by omega)) (hA (i + 1 + d) h)
  have := key (j - (i + 1)) (by omega)
  simpa [show i + 1 + (j - (i + 1)) = j by omega] using this
theorem vals0 {L : List R} (h : El.Elt.vld L = 0) : ∀ x ∈ L, El.Elt.Val x.1 x.2 := by
  intro x hx
  unfold El.Elt.vld at h
  split at h
  · cases h
  · rename_i h1
    split at h
    · cases h
    · rename_i h2
      rcases El.Elt.chk_cases x.1 x.2 with q | q | q
      · exact q.1
      · exact absurd ⟨x, hx, q.2.2⟩ h2
      · exact absurd ⟨x, hx, q.2⟩ h1
theorem bd0 {L : List R} (h : El.Elt.vld L = 0) : ∀ x ∈ L, (1 ≤ x.1 ∧ x.1 ≤ 11) ∧ -11000 ≤ x.2 ∧ x.2 ≤ 11000 := by
  intro x hx
  have hv := vals0 h x hx
  have := El.Elt.val_bd hv
  obtain ⟨he, -⟩ := hv
  unfold El.Elt.Ex at he
  omega
theorem le11 {L : List R} (h : El.Elt.vld L = 0) : L.length ≤ 11 := by
  have hv := bd0 h
  have ha := List.pairwise_iff_getElem.1 (vld_asc h)
  have key : ∀ i, ∀ hi : i < L.length, (i : Int) + 1 ≤ (L[i]).1 := fun i => by
    induction i with
    | zero => intro hi; have := (hv _ (List.getElem_mem hi)).1; omega
    | succ i ih => intro hi; have h1 := ih (by omega); have h2 := ha i (i + 1) (by omega) hi (by omega); push_cast; omega
  rcases Nat.eq_zero_or_pos L.length with q | q
  · omega
  · have h1 := key (L.length - 1) (by omega)
    have h2 := (hv _ (List.getElem_mem (show L.length - 1 < L.length by omega))).1
    omega
end Go.Proofs.YtlakgkoohdfiaaaDoor.Tm

namespace Go.Proofs.YtlakgkoohdfiaaaDoor.Tm
open Go.RowKit Go.Maps Go.ChangeMaps

theorem keV_inj {a b : Ke} (h : keV a = keV b) : a = b := by
  unfold keV at h
  injection h with h
  simp at h
  exact Prod.ext h.1 h.2
set_option maxRecDepth 100000 in
/-- An entry that comes out of the range is what stands at its key. -/
theorem at_key {D : DataW Value} {f : Ke → Option Value} {x : Ke} {c : Value} {kl : Lit} {y : DataW Value × List MemPlace} (hD : ∀ k, KeOk k → Maps.has D (Ow.nk k) = (f k).isSome ∧ ∀ z, D.atKey (Ow.nk k) (.held z) = .held ((f k).getD z))
    (hk : keyOf Tryd.prog 132 (keV x) = some kl) (hy : MsR c = some y) (hat : ∀ zd, D.atKey kl zd = y.1) : f x = some c ∧ kl = Ow.nk x ∧ KeOk x := by
  obtain ⟨k, e, rfl, hok⟩ := Ow.nk_inv hk
  obtain rfl := keV_inj e
  have h1 : y.1 = .held c := by
    have := Option.some.inj hy
    rw [← this]
  refine ⟨?_, rfl, hok⟩
  have h2 : ∀ z, (f x).getD z = c := fun z => by
    have h3 := hat (.held z)
    rw [(hD x hok).2 z, h1] at h3
    exact DataW.held.inj h3
  cases hf : f x with
  | some v => have := h2 (.bool true); rw [hf] at this; exact congrArg some this
  | none =>
    have e1 := h2 (.bool true)
    have e2 := h2 (.bool false)
    rw [hf] at e1 e2
    rw [← e1] at e2
    cases e2
/-- The map while it is gone through. -/
structure G2 (w : World) (n : Nat) (g : Ke → List Pt) (b gi : Nat) (D : DataW Value) (f : Ke → Option Value) (left : Lit → Bool) (cnt : Nat) (Y : World) : Prop where
  gm : Gm w n g b f Y
  rng : Y.ranges Tryd.prog 132 MsR b gi n D left cnt
  it : gi + 1 ≤ Y.heap.size
theorem Gm.grow {w Y Y' : World} {n b : Nat} {g : Ke → List Pt} {f : Ke → Option Value} (h : Gm w n g b f Y) (hg : Y.grownBy Y' none) : Gm w n g b f Y' where
  below := h.below.grown hg h.below.size (by simp)
  map := h.map.kept hg (by simp)
  new := h.new
  rows := fun k v e => ⟨own_heap (h.rows k v e).1 fun i hi => hg.block i (row_size (h.rows k v e).1 hi) (by simp), (h.rows k v e).2⟩
  nil := h.nil
  apart := h.apart
  ok := h.ok
theorem Gm.grown1 {w Y Y' : World} {n b gi : Nat} {g : Ke → List Pt} {f : Ke → Option Value} (h : Gm w n g b f Y) (hg : Y.grownBy Y' (some gi)) (hi : ∀ k v, f k = some v → ∀ i, v.ownBlock = some i → i ≠ gi) (hb : b < gi) : Gm w n g b f Y' where
  below := h.below.grown hg h.below.size (fun i e => by injection e with e; have := h.new; omega)
  map := h.map.kept hg (by simp; omega)
  new := h.new
  rows := fun k v e => ⟨own_heap (h.rows k v e).1 fun i hi' => hg.block i (row_size (h.rows k v e).1 hi') (fun q => hi k v e i hi' (by injection q)), (h.rows k v e).2⟩
  nil := h.nil
  apart := h.apart
  ok := h.ok
/-- Which rows are sorted. -/
structure Sd (left : Lit → Bool) (g : Ke → List Pt) (E : List (Ke × Pt)) (f : Ke → Option Value) : Prop where
  perm : ∀ k, (g k).Perm (gr E k)
  srt : ∀ k, KeOk k → left (Ow.nk k) = false → (g k).Pairwise fun x y => ¬ cfP y x < 0
  non : ∀ k, f k = none → g k = []
set_option maxRecDepth 100000 in
theorem Sd.start {E : List (Ke × Pt)} {f : Ke → Option Value} {D : DataW Value} (hD : ∀ k, KeOk k → Maps.has D (Ow.nk k) = (f k).isSome ∧ ∀ z, D.atKey (Ow.nk k) (.held z) = .held ((f k).getD z)) (hn : ∀ k, f k = none → gr E k = []) : Sd (Maps.has D) (gr E) E f :=
  ⟨fun _ => List.Perm.refl _, fun k hk h => by
    rw [(hD k hk).1] at h
    rw [hn k (by cases hf : f k with | none => rfl | some v => rw [hf] at h; cases h)]
    exact List.Pairwise.nil, hn⟩
set_option maxRecDepth 100000 in
theorem Sd.step {left : Lit → Bool} {g : Ke → List Pt} {E : List (Ke × Pt)} {f : Ke → Option Value} (h : Sd left g E f) {key : Ke} {v : Value} (hf : f key = some v) (hk : KeOk key) {L' : List Pt} (hp : L'.Perm (g key)) (hs : L'.Pairwise fun x y => ¬ cfP y x < 0) : Sd (fun z => left z && !z.sameKey (Ow.nk key)) (fun k => if k = key then L' else g k) E f where
  perm k := by
    by_cases e : k = key
    · subst e; simp only [if_true]; exact hp.trans (h.perm k)
    · simp only [e, if_false]; exact h.perm k
  srt k hok hl := by
    by_cases e : k = key
    · subst e; simp only [if_true]; exact hs
    · simp only [e, if_false]
      refine h.srt k hok ?_
      have h0 : (Ow.nk k).sameKey (Ow.nk key) = false := by
        cases q : (Ow.nk k).sameKey (Ow.nk key) with
        | false => rfl
        | true => exact absurd (Ow.nk_inj hok hk (WideAt.sameKey_eq q)) e
      rw [h0] at hl
      simpa using hl
  non k hn := by
    by_cases e : k = key
    · subst e; rw [hf] at hn; cases hn
    · simp only [e, if_false]; exact h.non k hn
/-- What lines leaves. -/
def LnO (Q : List Rp) (w : World) (e : Ending) (w' : World) : Prop := ∃ b f n, e = .returned (.map (some b)) ∧ n ≤ 50000 ∧ Gm w n (fun k => lin Q k.1 k.2) b f w'
end Go.Proofs.YtlakgkoohdfiaaaDoor.Tm
