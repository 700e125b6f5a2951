/- What the reference's Parse of bulletins holds in memory between two lines; its lines in terms of the program's. -/
import Derived.Test.YtfnlgfacadmjpaaGreatDoorBRe
import Derived.Test.YtfnlgfacadmjpaaGreatDoorBPs
import Derived.Test.YtfnlgfacadmjpaaGreatDoorGRq
namespace Go.Proofs.YtfnlgfacadmjpaaGreatDoor.Bu
open Go.RowKit

/-- The bulletin that grows, the damaged lines, their lists, the readings, apart from each other. -/
structure Bsr (c : ByteArray) (t cor del : Int) (n₀ g10 : Nat) (R : List Rp) (dm : List Int) (vr vd : Value) (W : World) : Prop where
  bul : Row W g10 24 (bulC c t cor del vr)
  row : W.ownsRow n₀ 53 8 vr R.length (rpc R)
  nums : W.ownsRow n₀ 3 1 vd dm.length (dm.map (Value.int .i64))
  rds : ∀ r ∈ R, El.RdIn W r.u r.L
  sep : ∀ r ∈ R, r.L ≠ [] → ∀ i, r.u.ownBlock = some i → n₀ ≤ i ∧ i ≠ g10 ∧ vr.ownBlock ≠ some i ∧ vd.ownBlock ≠ some i
  b10 : n₀ ≤ g10
section
variable {c : ByteArray} {t cor del : Int} {n₀ g10 : Nat} {R : List Rp} {dm : List Int} {vr vd : Value} {W W' w1 : World}
theorem Bsr.keep (h : Bsr c t cor del n₀ g10 R dm vr vd W) (k : CellsKept W W') : Bsr c t cor del n₀ g10 R dm vr vd W' :=
  ⟨k.2 _ _ h.bul rfl, own_heap h.row (fun i hi => by obtain ⟨cur, hc, -⟩ := row_own h.row hi; exact (k.2 _ _ hc rfl).trans hc.symm), own_heap h.nums (fun i hi => by obtain ⟨cur, hc, -⟩ := row_own h.nums hi; exact (k.2 _ _ hc rfl).trans hc.symm),
    fun r hr => rdIn_kept (h.rds r hr) k.1 (fun hL i hi => by obtain ⟨-, o, ho, hc⟩ := rdIn_block (h.rds r hr) hL hi; exact (k.2 _ _ ho hc).trans ho.symm), h.sep, h.b10⟩
theorem Bsr.under (h : Bsr c t cor del n₀ g10 R dm vr vd W) (k : Below W.heap.size W W') : Bsr c t cor del n₀ g10 R dm vr vd W' := h.keep (.below k)
theorem Bsr.far (h : Bsr c t cor del n₀ g10 R dm vr vd W) {i : Nat} (hi : W.heap.size ≤ i) : n₀ ≤ i ∧ i ≠ g10 ∧ vr.ownBlock ≠ some i ∧ vd.ownBlock ≠ some i :=
  ⟨by have := h.bul.lt; have := h.b10; omega, fun e => by have := h.bul.lt; omega, fun e => by obtain ⟨_, -, q⟩ := row_own h.row e; omega, fun e => by obtain ⟨_, -, q⟩ := row_own h.nums e; omega⟩
theorem chg_grown {tmp : Obj} {row : Option Nat} (hg : (W.alloc tmp).grownBy w1 row) : Chg W w1 (fun i => row = some i) := by
  have hs : (W.alloc tmp).heap.size = W.heap.size + 1 := by simp
  refine ⟨?_, fun i hi hb => ?_⟩
  · have h1 := hg.size
    omega
  · exact (hg.block i (by omega) (fun e => hb e.symm)).trans (Below.heap_alloc W _ i hi)
theorem Bsr.damaged (h : Bsr c t cor del n₀ g10 R dm vr vd W) {tmp : Obj} {v' : Value} {x : Int} (ho : w1.ownsRow n₀ 3 1 v' (dm.length + 1) (dm.map (Value.int .i64) ++ [.int .i64 x])) (hg : (W.alloc tmp).grownBy w1 vd.ownBlock) (ha : v'.ownBlock = vd.ownBlock ∨ v'.ownBlock = some (W.alloc tmp).heap.size) :
    Bsr c t cor del n₀ g10 R (dm ++ [x]) vr v' w1 ∧ Below n₀ W w1 := by
  have hch := chg_grown hg
  have hs : (W.alloc tmp).heap.size = W.heap.size + 1 := by simp
  have n10 : vd.ownBlock ≠ some g10 := row_not h.nums h.bul (by decide)
  have hvr : ∀ i, vr.ownBlock = some i → vd.ownBlock ≠ some i := fun i hi e => by
    obtain ⟨cur, hc, -⟩ := row_own h.row hi
    obtain ⟨cur', hc', -⟩ := row_own h.nums e
    rw [hc] at hc'; injection hc' with q; injection q with _ q; exact absurd q (by decide)
  have hn0 : n₀ ≤ W.heap.size := Nat.le_trans h.b10 (Nat.le_of_lt h.bul.lt)
  refine ⟨⟨(hch.2 _ h.bul.lt n10).trans h.bul, own_heap h.row (fun i hi => hch.2 _ (row_size h.row hi) (hvr i hi)), ?_, ?_, ?_, h.b10⟩, (((Below.refl n₀ W).alloc hn0 tmp).grown hg (by simp; omega) fun j ej => row_base h.nums ej)⟩
  · simpa using ho
  · exact fun r hr => rdIn_kept (h.rds r hr) hch.1 (fun hL i hi => hch.2 _ (rdIn_block (h.rds r hr) hL hi).1 (fun q => (h.sep r hr hL i hi).2.2.2 q))
  · intro r hr hL i hi
    obtain ⟨s0, s1, s3, s4⟩ := h.sep r hr hL i hi
    refine ⟨s0, s1, s3, ?_⟩
    rcases ha with e | e
    · rw [e]; exact s4
    · rw [e]; intro q; injection q with q; have := (rdIn_block (h.rds r hr) hL hi).1; omega
theorem Bsr.read (h : Bsr c t cor del n₀ g10 R dm vr vd W) {tmp : Obj} {v' : Value} {r : Rp} (hr : El.RdIn W r.u r.L) (hf : r.L ≠ [] → ∀ i, r.u.ownBlock = some i → n₀ ≤ i ∧ i ≠ g10 ∧ vr.ownBlock ≠ some i ∧ vd.ownBlock ≠ some i) (ho : w1.ownsRow n₀ 53 8 v' (R.length + 1) (rpc R ++ rpCells r)) (hg : (W.alloc tmp).grownBy w1 vr.ownBlock) (ha : v'.ownBlock = vr.ownBlock ∨ v'.ownBlock = some (W.alloc tmp).heap.size) :
    Row w1 g10 24 (bulC c t cor del vr) ∧ Bsr c t cor del n₀ g10 (R ++ [r]) dm v' vd (w1.setCell ⟨g10, 4, none⟩ v') ∧ Below n₀ W (w1.setCell ⟨g10, 4, none⟩ v') := by
  have hch := chg_append hg g10 4 v'
  have hs : (W.alloc tmp).heap.size = W.heap.size + 1 := by simp
  have n10 : vr.ownBlock ≠ some g10 := row_not h.row h.bul (by decide)
  have r1 : Row w1 g10 24 (bulC c t cor del vr) := (h.bul.alloc tmp).grown hg (Ne.symm n10)
  have hvd : ∀ i, vd.ownBlock = some i → i ≠ g10 ∧ vr.ownBlock ≠ some i := fun i hi => by
    obtain ⟨cur, hc, -⟩ := row_own h.nums hi
    refine ⟨fun e => row_not h.nums h.bul (by decide) (e ▸ hi), fun e => ?_⟩
    obtain ⟨cur', hc', -⟩ := row_own h.row e
    rw [hc] at hc'; injection hc' with q; injection q with _ q; exact absurd q (by decide)
  have hall : ∀ r' ∈ R ++ [r], El.RdIn W r'.u r'.L ∧ (r'.L ≠ [] → ∀ i, r'.u.ownBlock = some i → n₀ ≤ i ∧ i ≠ g10 ∧ vr.ownBlock ≠ some i ∧ vd.ownBlock ≠ some i) := fun r' h' => by
    rcases List.mem_append.1 h' with q | q
    · exact ⟨h.rds r' q, h.sep r' q⟩
    · rw [List.mem_singleton.1 q]; exact ⟨hr, hf⟩
  have hn0 : n₀ ≤ W.heap.size := Nat.le_trans h.b10 (Nat.le_of_lt h.bul.lt)
  refine ⟨r1, ⟨r1.put 4 v', ?_, ?_, ?_, ?_, h.b10⟩, (((Below.refl n₀ W).alloc hn0 tmp).grown hg (by simp; omega) fun j ej => row_base h.row ej).setCell (p := ⟨g10, 4, none⟩) h.b10 v'⟩
  · have hne' : v'.ownBlock ≠ some g10 := row_not ho r1 (by decide)
    have := own_heap (W' := w1.setCell ⟨g10, 4, none⟩ v') ho (fun i hi => Below.heap_setCell w1 ⟨g10, 4, none⟩ v' i (fun e => hne' (by rw [hi]; exact congrArg some e)))
    rw [rpc_app, List.length_append]; exact this
  · exact own_heap h.nums (fun i hi => hch.2 _ (row_size h.nums hi) (fun q => q.elim (hvd i hi).2 (hvd i hi).1))
  · exact fun r' h' => rdIn_kept (hall r' h').1 hch.1 (fun hL i hi => hch.2 _ (rdIn_block (hall r' h').1 hL hi).1 (fun q => q.elim ((hall r' h').2 hL i hi).2.2.1 ((hall r' h').2 hL i hi).2.1))
  · intro r' h' hL i hi
    obtain ⟨s0, s1, s3, s4⟩ := (hall r' h').2 hL i hi
    refine ⟨s0, s1, ?_, s4⟩
    rcases ha with e | e
    · rw [e]; exact s3
    · rw [e]; intro q; injection q with q; have := (rdIn_block (hall r' h').1 hL hi).1; omega
theorem Bsr.last (h : Bsr c t cor del n₀ g10 R dm vr vd W) (hs : W.heap.size ≤ W'.heap.size) (hk : ∀ (i : Nat) (o : Obj), n₀ ≤ i → W.heap[i]? = some o → o.isCells = true → W'.heap[i]? = some o) :
    W'.ownsRow n₀ 53 8 vr R.length (rpc R) ∧ W'.ownsRow n₀ 3 1 vd dm.length (dm.map (Value.int .i64)) ∧ ∀ r ∈ R, El.RdIn W' r.u r.L :=
  ⟨own_heap h.row (fun i hi => by obtain ⟨cur, hc, -⟩ := row_own h.row hi; exact (hk _ _ (row_base h.row hi) hc rfl).trans hc.symm), own_heap h.nums (fun i hi => by obtain ⟨cur, hc, -⟩ := row_own h.nums hi; exact (hk _ _ (row_base h.nums hi) hc rfl).trans hc.symm),
    fun r hr => rdIn_kept (h.rds r hr) hs (fun hL i hi => by obtain ⟨-, o, ho, hc⟩ := rdIn_block (h.rds r hr) hL hi; exact (hk _ _ (h.sep r hr hL i hi).1 ho hc).trans ho.symm)⟩
end
/-- Why a line has no reading, or what its reading is. -/
theorem line_no {x : List UInt8} (h : ∀ y, x ≠ y ++ [61]) (near : Int) : rdl near (x ++ [10]) = none := rdl_no fun k nm t F A B C L ⟨y, e, _⟩ => by
  rw [show y ++ ends = (y ++ [61]) ++ [10] by simp [ends]] at e
  exact h y (List.append_cancel_right e)
theorem line_torn {z : List UInt8} (h : ∀ c ∈ z, c ≠ 10) (near : Int) : rdl near z = none := rdl_no fun k nm t F A B C L ⟨y, e, _⟩ => h 10 (by rw [e]; simp [ends]) rfl
theorem line_bad {x : List UInt8} {near : Int} (h : ∀ k nm t F A B C L, ¬ Psd x near k nm t F A B C L) : rdl near ((x ++ [61]) ++ [10]) = none := rdl_no fun k nm t F A B C L ⟨y, e, hy⟩ => by
  rw [show y ++ ends = (y ++ [61]) ++ [10] by simp [ends]] at e
  have e2 := List.append_cancel_right (List.append_cancel_right e)
  subst e2
  exact h _ _ _ _ _ _ _ _ hy
theorem line_yes {x : List UInt8} {near k t F A B C : Int} {nm : List UInt8} {L : List El.Elt.R} (u : Value) (h : Psd x near k nm t F A B C L) : rdl near ((x ++ [61]) ++ [10]) = some (Rp.key (⟨k, S nm, t, F, A, B, C, u, L⟩ : Rp)) :=
  rdl_yes ⟨nm, rfl, x, by simp [ends], h⟩
/-- The lines of a body: the pieces but the last, each with its line feed, and the last if it is not empty. -/
structure Pcz (body : List UInt8) (L : List (List UInt8)) (z : List UInt8) : Prop where
  pc : pcs body = L ++ [z]
  ln : lns body = L.map (· ++ [10]) ++ (if z = [] then [] else [z])
  fz : ∀ c ∈ z, c ≠ 10
theorem pcz_some (body : List UInt8) : ∃ L z, Pcz body L z := by
  obtain ⟨L, z, h1, h2, -, h4⟩ := lns_pcs body
  exact ⟨L, z, h1, h2, h4⟩
theorem nums_get : ∀ (L : List (List UInt8)) (k j : Nat) (h : j < L.length), (nums k L)[j]? = some (k + j, L[j])
  | [], _, _, h => absurd h (Nat.not_lt_zero _)
  | l :: r, k, 0, _ => rfl
  | l :: r, k, j + 1, h => by
    have := nums_get r (k + 1) j (by simpa using h)
    simp only [nums, List.getElem?_cons_succ, List.getElem_cons_succ]
    rw [this]
    congr 2
    omega
theorem nums_take (k : Nat) (L : List (List UInt8)) (j : Nat) (h : j < L.length) : (nums k L).take (j + 1) = (nums k L).take j ++ [(k + j, L[j])] := by
  rw [List.take_add_one, nums_get L k j h]
  rfl
theorem Pcz.one {body : List UInt8} {L : List (List UInt8)} {z : List UInt8} (h : Pcz body L z) {j : Nat} (hj : j < L.length) (hl : j < (lns body).length) : (lns body)[j] = L[j] ++ [10] := by
  have := h.ln
  simp only [this]
  rw [List.getElem_append_left (by simpa using hj)]
  simp
theorem Pcz.two {body : List UInt8} {L : List (List UInt8)} {z : List UInt8} (h : Pcz body L z) (hl : L.length < (lns body).length) : (lns body)[L.length] = z := by
  have hz : z ≠ [] := fun e => by
    have := h.ln
    rw [if_pos e] at this
    rw [this] at hl
    simp at hl
  have := h.ln
  rw [if_neg hz] at this
  simp only [this]
  rw [List.getElem_append_right (by simp)]
  simp
theorem Pcz.len {body : List UInt8} {L : List (List UInt8)} {z : List UInt8} (h : Pcz body L z) : (lns body).length = L.length + (if z = [] then 0 else 1) := by
  rw [h.ln]
  split <;> simp
theorem pcs_mem_len : ∀ (a x : List UInt8), x ∈ pcs a → x.length ≤ a.length
  | [], x, h => by
    simp only [pcs, List.mem_singleton] at h
    rw [h]; exact Nat.le_refl _
  | c :: r, x, h => by
    have ih := pcs_mem_len r
    simp only [pcs] at h
    split at h
    · rcases List.mem_cons.1 h with rfl | h
      · simp
      · have := ih x h; simp only [List.length_cons]; omega
    · split at h
      · simp only [List.mem_singleton] at h; rw [h]; simp
      · rename_i l ls e
        rw [e] at ih
        rcases List.mem_cons.1 h with rfl | h
        · have := ih l List.mem_cons_self; simp only [List.length_cons]; omega
        · have := ih x (List.mem_cons_of_mem _ h); simp only [List.length_cons]; omega
/-- Strings in memory. -/
theorem str_cells {W : World} {base : Nat} {v : Value} {P : List (List UInt8)} (h : W.ownsRow base 9 1 v P.length (strs P)) (hp : P ≠ []) : ∃ g cap, v = .slice (some ⟨g, 0, none⟩) P.length cap ∧ P.length ≤ cap ∧ cap ≤ 9223372036854775807 ∧ base ≤ g ∧ g < W.heap.size ∧ ∀ i (hi : i < P.length), W.cell? ⟨g, i, none⟩ = some (.string (S P[i])) := by
  have h' := h
  rcases h.2 with ⟨_, h0⟩ | ⟨g, cap, cur, rfl, hb, hh, hle, hmax, _⟩
  · exact absurd (List.length_eq_zero_iff.1 h0) hp
  · refine ⟨g, cap, rfl, hle, by unfold maxLen at hmax; omega, hb, (Array.getElem?_eq_some_iff.1 hh).1, fun i hi => ?_⟩
    rw [h'.cellAt i (by omega)]
    simp [strs, hi]
end Go.Proofs.YtfnlgfacadmjpaaGreatDoor.Bu
