/- The iterator over the lines of a text. What Parse of bulletins holds in memory between two lines. -/
import Derived.RangeFuncNested
import Derived.RangeFuncBound
import Derived.RangeFuncCalls
import Derived.RangeFuncLeaves
import Derived.RangeFuncBox
import Derived.Shelf.Abstract
import Derived.WalkKit
import Derived.OwnWalkIn
import Derived.TacticsInMore
import Derived.LoopNIn
import Derived.LoopIn
import Derived.Maps.AppendAt
import Derived.Test.YtfnlgfacadmjpaaGreatDoorBPa
import Derived.Test.YtfnlgfacadmjpaaGreatDoorShelf
import Derived.Test.YtfnlgfacadmjpaaGreatDoorGNa
import Derived.Test.YtfnlgfacadmjpaaGreatDoorBRh
import Derived.Maps.OwnIn
namespace Go.Proofs.YtfnlgfacadmjpaaGreatDoor.Bu
open Go.RowKit
attribute [local go_sem] Oper.semAt_some

/-- A line with its number, both bounded. -/
abbrev Ln := { x : Nat × List UInt8 // x.1 ≤ 60 ∧ x.2.length ≤ 4000 }
abbrev encL (x : Ln) : Array Value := #[.int .i64 (x.1.1 : Int), .string (S x.1.2)]
def strLen : Value → Nat
  | .string s => s.size
  | _ => 0
theorem S_extract (r : List UInt8) (a b : Nat) : (S r).extract a b = S ((r.take b).drop a) := by
  have h : ((S r).extract a b).data.toList = (r.take b).drop a := by
    rw [ByteArray.data_extract, Array.toList_extract, S_list, List.extract_eq_take_drop]
    rw [List.drop_take]
  rw [← h, S_of]
theorem S_tl (r : List UInt8) : (S r).toList = r := by rw [Lib.toList_data]; exact S_list r
theorem S_nil {r : List UInt8} : S r = ⟨#[]⟩ ↔ r = [] := by
  constructor
  · intro h
    have := congrArg (fun s : ByteArray => s.data.toList) h
    simpa [S_list] using this
  · rintro rfl; rfl
theorem fe_ix {r : List UInt8} : (0 ≤ Lib.indexByte r 10 → (fe r : Int) = Lib.indexByte r 10 + 1) ∧ (¬ 0 ≤ Lib.indexByte r 10 → fe r = r.length) := by
  unfold fe
  constructor
  · intro h; rw [if_pos h]; omega
  · intro h; rw [if_neg h]
set_option maxRecDepth 100000 in
set_option maxHeartbeats 2000000 in
theorem lines_stops (n : Nat) (hn : 1 ≤ n) (B n₀ : Nat) (s : List UInt8) (w : World) (hB : B < w.heap.size) (hc0 : w.cell? ⟨B, 0, none⟩ = some (.string (S s))) (hs : s.length ≤ 4000) (hl : (lns s).length ≤ 60) :
    SeqStopsK Fence.wide n Tryz.prog 90 #[.pointer (some ⟨B, 0, none⟩)] encL (Below n₀) (fun ys => ys.map (·.1) = nums 1 (lns s)) (fun _ => True) (lns s).length w := fun l J Jx W hW _ _ hY h0 => by
  have hc := (hW.cell (p := ⟨B, 0, none⟩) hB).trans hc0
  have HLL := Lib.hid hl
  clear hl
  refine callsIn_of_wp Tryz.func90 rfl trivial ?_ rfl
  simp only [Tryz.ntmps90, List.size_toArray, List.length_cons, List.length_nil, Nat.reduceAdd, Nat.reduceSub, Array.replicate_succ, Array.replicate_zero, List.push_toArray, List.append_toArray, List.nil_append, List.cons_append]
  gi_wp2
  gi_loopw [3, 4] (fun p q wr => ∃ (pre : List Ln) (rest : List UInt8) (k : Nat), p = .string (S rest) ∧ q = .int .i64 (k : Int) ∧ Hid (k = pre.length + 1 ∧ pre.map (·.1) ++ nums k (lns rest) = nums 1 (lns s) ∧ rest.length ≤ 4000 ∧ pre.length + (lns rest).length = (lns s).length) ∧ J pre wr) (fun p _ _ => strLen p)
  case atStart => exact ⟨[], s, 1, rfl, rfl, Lib.hid ⟨rfl, rfl, hs, by simp⟩, h0⟩
  case round =>
    obtain ⟨pre, rest, k, rfl, rfl, HX, hJ⟩ := hrel
    by_cases hr : rest = []
    · subst hr
      have e0 : S ([] : List UInt8) = ⟨#[]⟩ := rfl
      rw [e0]
      clear e0
      gi_wp2
      go_end0
      exact ⟨⟨_, rfl⟩, .inl ⟨pre, by have := HX.out.2.1; simpa [lns, nums] using this, hJ⟩⟩
    · have he : (S rest).toList.isEmpty = false := by rw [S_tl]; simpa using hr
      have hlt : pre.length < (lns s).length := by have := HX.out.2.2.2; rw [lns_step hr] at this; simp at this; omega
      have hf := fe_pos hr
      have hfx := @fe_ix rest
      have hk : k ≤ 60 := by have := HX.out.1; have := HLL.out; omega
      have hrl := HX.out.2.2.1
      have hsz : (S rest).size = rest.length := S_size rest
      have hix := fun w => Tryz.strings_Index_one (S rest) 10 w
      simp only [S_list] at hix
      have HN : Hid (k + 1 = (pre ++ [(⟨(k, rest.take (fe rest)), hk, by simp only [List.length_take]; omega⟩ : Ln)]).length + 1 ∧ (pre ++ [(⟨(k, rest.take (fe rest)), hk, by simp only [List.length_take]; omega⟩ : Ln)]).map (·.1) ++ nums (k + 1) (lns (rest.drop (fe rest))) = nums 1 (lns s) ∧ (rest.drop (fe rest)).length ≤ 4000 ∧ (pre ++ [(⟨(k, rest.take (fe rest)), hk, by simp only [List.length_take]; omega⟩ : Ln)]).length + (lns (rest.drop (fe rest))).length = (lns s).length) := Lib.hid (by
        obtain ⟨h1, h2, h3, h4⟩ := HX.out
        rw [lns_step hr] at h2 h4
        refine ⟨by simp; omega, ?_, by simp only [List.length_drop]; omega, by simp only [List.length_append, List.length_cons, List.length_nil] at h4 ⊢; omega⟩
        rw [← h2]
        simp [nums])
      obtain ⟨fn, tmps, assign, body, hy, hR⟩ := hY pre ⟨(k, rest.take (fe rest)), hk, by simp only [List.length_take]; omega⟩ wr hJ hlt
      simp only [encL] at hy
      generalize hxx : (⟨(k, rest.take (fe rest)), hk, by simp only [List.length_take]; omega⟩ : Ln) = xx at HN hR
      clear hxx HX
      by_cases hz : 0 ≤ Lib.indexByte rest 10
      · obtain ⟨m, hm⟩ : ∃ m, fe rest = m + 1 := ⟨fe rest - 1, by omega⟩
        have hzm : Lib.indexByte rest 10 = (m : Int) := by have := hfx.1 hz; omega
        rw [hzm] at hix
        rw [hm] at hy hf HN
        have hy2 := hy
        rw [show S (rest.take (m + 1)) = (S rest).extract 0 (m + 1) by rw [S_extract]; simp] at hy2
        clear hfx hz hzm hy hm he hlt
        have he : (S rest).toList.isEmpty = false := by rw [S_tl]; simpa using hr
        gi_wp2_with (refine ⟨trivial, ?_⟩; gi_at_call 91; refine (callsIn_wide.2 (hix _)).mono ?_; rintro e w' ⟨rfl, rfl⟩)
        refine hR.mono ?_
        rintro e W3 (⟨rfl, hJ3, hk3⟩ | ⟨rfl, hJx3⟩)
        · gi_wp2
          go_roundw
          case rel => exact ⟨pre ++ [xx], rest.drop (m + 1), k + 1, by rw [S_extract]; simp, by go_num, HN, hJ3⟩
          case measure => simp only [strLen, S_size, S_extract];  simp; omega
        · gi_wp2
          refine bodyPost_ret (results_none rfl _ _ _) rfl ?_
          exact ⟨⟨_, rfl⟩, .inr ⟨pre ++ [xx], trivial, hJx3⟩⟩
      · have hff := hfx.2 hz
        obtain ⟨z, hzz⟩ : ∃ z, Lib.indexByte rest 10 = z := ⟨_, rfl⟩
        have hz0 : z < 0 := by omega
        rw [hzz] at hix
        have ht : rest.take (fe rest) = rest := by rw [hff]; exact List.take_length
        rw [ht] at hy
        rw [show rest.drop (fe rest) = [] by rw [hff]; exact List.drop_length] at HN
        rw [show S rest = (S rest).extract 0 rest.length by rw [S_extract]; simp] at hy
        clear hfx hz hzz hff ht hf hlt
        gi_wp2_with (refine ⟨trivial, ?_⟩; gi_at_call 91; refine (callsIn_wide.2 (hix _)).mono ?_; rintro e w' ⟨rfl, rfl⟩)
        refine hR.mono ?_
        rintro e W3 (⟨rfl, hJ3, hk3⟩ | ⟨rfl, hJx3⟩)
        · gi_wp2
          go_roundw
          case rel => exact ⟨pre ++ [xx], [], k + 1, rfl, by go_num, HN, hJ3⟩
          case measure => have := List.length_pos_iff.2 hr; rw [show strLen (.string (S rest)) = rest.length from S_size rest]; simpa [strLen] using this
        · gi_wp2
          refine bodyPost_ret (results_none rfl _ _ _) rfl ?_
          exact ⟨⟨_, rfl⟩, .inr ⟨pre ++ [xx], trivial, hJx3⟩⟩
set_option maxHeartbeats 1000000 in
theorem lines_any (n : Nat) (s : ByteArray) (w : World) :
    CallsIn Fence.wide n Tryz.prog 53 #[.string s] w fun e w' => e = .returned (.func (.func 90) #[] #[.pointer (some ⟨w.heap.size, 0, none⟩)]) ∧ w' = w.alloc (.cells #[.string s] 9) := by
  refine callsIn_of_wp Tryz.func53 rfl trivial ?_ rfl
  simp only [Tryz.ntmps53, List.size_toArray, List.length_cons, List.length_nil, Nat.reduceAdd, Nat.reduceSub, Array.replicate_succ, Array.replicate_zero, List.push_toArray, List.append_toArray, List.nil_append, List.cons_append]
  gi_wp2
  go_ret
  exact ⟨rfl, rfl⟩
end Go.Proofs.YtfnlgfacadmjpaaGreatDoor.Bu
namespace Go.Proofs.YtfnlgfacadmjpaaGreatDoor.Bu
open Go.RowKit

/-- Whatever is cells lies as it lay. -/
def CellsKept (W W' : World) : Prop := W.heap.size ≤ W'.heap.size ∧ ∀ (i : Nat) (o : Obj), W.heap[i]? = some o → o.isCells = true → W'.heap[i]? = some o
theorem CellsKept.below {W W' : World} (h : Below W.heap.size W W') : CellsKept W W' := ⟨h.size, fun i _ ho _ => (h.block i (Array.getElem?_eq_some_iff.1 ho).1).trans ho⟩
theorem CellsKept.turn {W W' : World} {row : Option Nat} (hg : W.grownBy W' row) (hr : ∀ r, row = some r → ∃ o : Obj, W.heap[r]? = some o ∧ o.isCells = false) : CellsKept W W' := ⟨hg.size, fun _ _ ho hc => (grownBy_keeps_cells hg hr ho hc).trans ho⟩
theorem rdIn_kept {W W' : World} {u : Value} {L : List El.Elt.R} (h : El.RdIn W u L) (hs : W.heap.size ≤ W'.heap.size) (hk : L ≠ [] → ∀ i, u.ownBlock = some i → W'.heap[i]? = W.heap[i]?) : El.RdIn W' u L := by
  obtain ⟨A, cap, rfl, h2, h3, h4⟩ := h
  refine ⟨A, cap, rfl, h2, h3, fun i hi => ?_⟩
  obtain ⟨g, off, rfl, hg, c0, c1⟩ := h4 i hi
  have e := hk (fun e => by rw [e] at hi; exact absurd hi (Nat.not_lt_zero _)) g rfl
  refine ⟨g, off, rfl, Nat.lt_of_lt_of_le hg hs, ?_, ?_⟩
  · unfold World.cell? at c0 ⊢; rw [e]; exact c0
  · unfold World.cell? at c1 ⊢; rw [e]; exact c1
theorem rdIn_block {W : World} {u : Value} {L : List El.Elt.R} (h : El.RdIn W u L) (hL : L ≠ []) {i : Nat} (hi : u.ownBlock = some i) : i < W.heap.size ∧ ∃ o : Obj, W.heap[i]? = some o ∧ o.isCells = true := by
  obtain ⟨A, cap, rfl, h2, h3, h4⟩ := h
  obtain ⟨g, off, rfl, hg, c0, c1⟩ := h4 0 (List.length_pos_iff.2 hL)
  cases hi
  exact ⟨hg, cells_of_cell c0⟩
theorem row_own {W : World} {base size n : Nat} {e : TypeId} {v : Value} {xs : List Value} (h : W.ownsRow base e size v n xs) {i : Nat} (hi : v.ownBlock = some i) : ∃ cur, W.heap[i]? = some (.cells cur e (0, 0)) ∧ i < W.heap.size := by
  rcases h.2 with ⟨rfl, -⟩ | ⟨g, cap, cur, rfl, hb, hg, -⟩
  · cases hi
  · cases hi
    exact ⟨cur, hg, (Array.getElem?_eq_some_iff.1 hg).1⟩
theorem row_size {W : World} {base size n : Nat} {e : TypeId} {v : Value} {xs : List Value} (h : W.ownsRow base e size v n xs) {i : Nat} (hi : v.ownBlock = some i) : i < W.heap.size := by
  obtain ⟨_, -, q⟩ := row_own h hi
  exact q
theorem row_base {W : World} {base size n : Nat} {e : TypeId} {v : Value} {xs : List Value} (h : W.ownsRow base e size v n xs) {i : Nat} (hi : v.ownBlock = some i) : base ≤ i := by
  rcases h.2 with ⟨rfl, -⟩ | ⟨g, cap, cur, rfl, hb, hg, -⟩
  · cases hi
  · cases hi; exact hb
theorem row_form {W : World} {base size n : Nat} {e : TypeId} {v : Value} {xs : List Value} (h : W.ownsRow base e size v n xs) : ∃ A cap, v = .slice A n cap := by
  rcases h.2 with ⟨rfl, rfl⟩ | ⟨g, cap, cur, rfl, hb, hg, -⟩
  · exact ⟨_, _, rfl⟩
  · exact ⟨_, _, rfl⟩
theorem own_heap {W W' : World} {base size n : Nat} {e : TypeId} {v : Value} {xs : List Value} (h : W.ownsRow base e size v n xs) (hk : ∀ i, v.ownBlock = some i → W'.heap[i]? = W.heap[i]?) : W'.ownsRow base e size v n xs := by
  refine ⟨h.1, ?_⟩
  rcases h.2 with h0 | ⟨g, cap, cur, rfl, h1, h2, h3⟩
  · exact .inl h0
  · exact .inr ⟨g, cap, cur, rfl, h1, (hk g rfl).trans h2, h3⟩
theorem row_not {W : World} {base size n g : Nat} {e t : TypeId} {v : Value} {xs : List Value} {cs : Array Value} (h : W.ownsRow base e size v n xs) (hr : Row W g t cs) (ht : t ≠ e) : v.ownBlock ≠ some g := fun q => by
  obtain ⟨cur, hc, -⟩ := row_own h q
  have := hc.symm.trans hr
  injection this with this
  injection this with _ this
  exact ht this.symm
/-- All blocks but these lie as they lay. -/
def Chg (W W' : World) (bad : Nat → Prop) : Prop := W.heap.size ≤ W'.heap.size ∧ ∀ i, i < W.heap.size → ¬ bad i → W'.heap[i]? = W.heap[i]?
theorem chg_append {W w1 : World} {tmp : Obj} {row : Option Nat} (hg : (W.alloc tmp).grownBy w1 row) (g j : Nat) (v : Value) : Chg W (w1.setCell ⟨g, j, none⟩ v) (fun i => row = some i ∨ i = g) := by
  have hs : (W.alloc tmp).heap.size = W.heap.size + 1 := by simp
  refine ⟨?_, fun i hi hb => ?_⟩
  · have h1 := hg.size
    have h2 := (KeepsWalks.setCell w1 ⟨g, j, none⟩ v).size
    omega
  · refine (Below.heap_setCell w1 ⟨g, j, none⟩ v i (fun e => hb (.inr e))).trans ((hg.block i (by omega) (fun e => hb (.inl e.symm))).trans ?_)
    exact Below.heap_alloc W _ i hi
/-- The bulletin that grows, the damaged lines, their lists, the readings, apart from each other. -/
structure Bst (c : ByteArray) (t cor del : Int) (n₀ g10 g12 : Nat) (R : List Rp) (dm : List Int) (vr vd : Value) (W : World) : Prop where
  bul : Row W g10 24 (bulC c t cor del vr)
  dam : Row W g12 25 #[vd]
  row : W.ownsRow n₀ 53 8 vr R.length (rpc R)
  nums : W.ownsRow n₀ 3 1 vd dm.length (dm.map (Value.int .i64))
  rds : ∀ r ∈ R, El.RdIn W r.u r.L
  sep : ∀ r ∈ R, r.L ≠ [] → ∀ i, r.u.ownBlock = some i → n₀ ≤ i ∧ i ≠ g10 ∧ i ≠ g12 ∧ vr.ownBlock ≠ some i ∧ vd.ownBlock ≠ some i
  b10 : n₀ ≤ g10
  b12 : n₀ ≤ g12
section
variable {c : ByteArray} {t cor del : Int} {n₀ g10 g12 : Nat} {R : List Rp} {dm : List Int} {vr vd : Value} {W W' w1 : World}
theorem Bst.keep (h : Bst c t cor del n₀ g10 g12 R dm vr vd W) (k : CellsKept W W') : Bst c t cor del n₀ g10 g12 R dm vr vd W' :=
  ⟨k.2 _ _ h.bul rfl, k.2 _ _ h.dam rfl, own_heap h.row (fun i hi => by obtain ⟨cur, hc, -⟩ := row_own h.row hi; exact (k.2 _ _ hc rfl).trans hc.symm), own_heap h.nums (fun i hi => by obtain ⟨cur, hc, -⟩ := row_own h.nums hi; exact (k.2 _ _ hc rfl).trans hc.symm),
    fun r hr => rdIn_kept (h.rds r hr) k.1 (fun hL i hi => by obtain ⟨-, o, ho, hc⟩ := rdIn_block (h.rds r hr) hL hi; exact (k.2 _ _ ho hc).trans ho.symm), h.sep, h.b10, h.b12⟩
theorem Bst.under (h : Bst c t cor del n₀ g10 g12 R dm vr vd W) (k : Below W.heap.size W W') : Bst c t cor del n₀ g10 g12 R dm vr vd W' := h.keep (.below k)
/-- A block that is newer than all. -/
theorem Bst.far (h : Bst c t cor del n₀ g10 g12 R dm vr vd W) {i : Nat} (hi : W.heap.size ≤ i) : n₀ ≤ i ∧ i ≠ g10 ∧ i ≠ g12 ∧ vr.ownBlock ≠ some i ∧ vd.ownBlock ≠ some i :=
  ⟨by have := h.bul.lt; have := h.b10; omega, fun e => by have := h.bul.lt; omega, fun e => by have := h.dam.lt; omega, fun e => by obtain ⟨_, -, q⟩ := row_own h.row e; omega, fun e => by obtain ⟨_, -, q⟩ := row_own h.nums e; omega⟩
theorem Bst.damaged (h : Bst c t cor del n₀ g10 g12 R dm vr vd W) (hne : g10 ≠ g12) {tmp : Obj} {v' : Value} {x : Int} (ho : w1.ownsRow n₀ 3 1 v' (dm.length + 1) (dm.map (Value.int .i64) ++ [.int .i64 x])) (hg : (W.alloc tmp).grownBy w1 vd.ownBlock) (ha : v'.ownBlock = vd.ownBlock ∨ v'.ownBlock = some (W.alloc tmp).heap.size) :
    Row w1 g12 25 #[vd] ∧ Bst c t cor del n₀ g10 g12 R (dm ++ [x]) vr v' (w1.setCell ⟨g12, 0, none⟩ v') ∧ KeepsOthers W (w1.setCell ⟨g12, 0, none⟩ v') ∧ Below n₀ W (w1.setCell ⟨g12, 0, none⟩ v') := by
  have hch := chg_append hg g12 0 v'
  have hs : (W.alloc tmp).heap.size = W.heap.size + 1 := by simp
  have n12 : vd.ownBlock ≠ some g12 := row_not h.nums h.dam (by decide)
  have n10 : vd.ownBlock ≠ some g10 := row_not h.nums h.bul (by decide)
  have r1 : Row w1 g12 25 #[vd] := (h.dam.alloc tmp).grown hg (Ne.symm n12)
  have hvr : ∀ i, vr.ownBlock = some i → i ≠ g12 ∧ vd.ownBlock ≠ some i := fun i hi => by
    obtain ⟨cur, hc, -⟩ := row_own h.row hi
    refine ⟨fun e => row_not h.row h.dam (by decide) (e ▸ hi), fun e => ?_⟩
    obtain ⟨cur', hc', -⟩ := row_own h.nums e
    rw [hc] at hc'; injection hc' with q; injection q with _ q; exact absurd q (by decide)
  have hn0 : n₀ ≤ W.heap.size := Nat.le_trans h.b10 (Nat.le_of_lt h.bul.lt)
  refine ⟨r1, ⟨?_, r1.put 0 v', ?_, ?_, ?_, ?_, h.b10, h.b12⟩, ?_, (((Below.refl n₀ W).alloc hn0 tmp).grown hg (by simp; omega) fun j ej => row_base h.nums ej).setCell (p := ⟨g12, 0, none⟩) h.b12 v'⟩
  · exact (hch.2 _ h.bul.lt (fun q => q.elim n10 hne)).trans h.bul
  · exact own_heap h.row (fun i hi => hch.2 _ (row_size h.row hi) (fun q => q.elim (hvr i hi).2 (hvr i hi).1))
  · have hne' : v'.ownBlock ≠ some g12 := row_not ho r1 (by decide)
    have := own_heap (W' := w1.setCell ⟨g12, 0, none⟩ v') ho (fun i hi => Below.heap_setCell w1 ⟨g12, 0, none⟩ v' i (fun e => hne' (by rw [hi]; exact congrArg some e)))
    simpa using this
  · exact fun r hr => rdIn_kept (h.rds r hr) hch.1 (fun hL i hi => hch.2 _ (rdIn_block (h.rds r hr) hL hi).1 (fun q => q.elim (h.sep r hr hL i hi).2.2.2.2 (h.sep r hr hL i hi).2.2.1))
  · intro r hr hL i hi
    obtain ⟨s0, s1, s2, s3, s4⟩ := h.sep r hr hL i hi
    refine ⟨s0, s1, s2, s3, ?_⟩
    rcases ha with e | e
    · rw [e]; exact s4
    · rw [e]; intro q; injection q with q; have := (rdIn_block (h.rds r hr) hL hi).1; omega
  · refine ((KeepsOthers.alloc W tmp).trans (KeepsOthers.of_grownBy hg fun j o ej hj => ?_)).trans (KeepsOthers.setCell _ _ _)
    obtain ⟨cur, hc, hl⟩ := row_own h.nums ej
    rw [show (W.alloc tmp).heap[j]? = W.heap[j]? from Below.heap_alloc W _ j hl, hc] at hj
    cases hj; rfl
theorem eight_at {Y : World} {g : Nat} {t : TypeId} {r : Rp} (h : Row Y g t (repC r.k r.nm r.t r.F r.A r.B r.C r.u)) : ∀ (j : Nat) (z : Value), (rpCells r)[j]? = some z → Y.cell? ((⟨g, 0, none⟩ : Addr).add j) = some z := fun j z hz => by
  have hj : j < 8 := (List.getElem?_eq_some_iff.1 hz).1
  have e : ((⟨g, 0, none⟩ : Addr).add j) = ⟨g, j, none⟩ := by rw [Addr.add_lit, Nat.zero_add]
  rw [e, h.cell j, ← hz]
  rcases (by omega : j = 0 ∨ j = 1 ∨ j = 2 ∨ j = 3 ∨ j = 4 ∨ j = 5 ∨ j = 6 ∨ j = 7) with rfl | rfl | rfl | rfl | rfl | rfl | rfl | rfl <;> rfl
theorem KeepsFrom.below {B : Nat} {W W' : World} (h : Below W.heap.size W W') : KeepsFrom B W W' := ⟨h.size, fun k _ _ hk _ => (h.block k (Array.getElem?_eq_some_iff.1 hk).1).trans hk⟩
theorem infoReport : (Tryz.prog.info? 53).map (fun i => (i.zero, i.size, i.bytes)) = some (some (repV 0 ⟨#[]⟩ 0 0 0 0 0 (.slice none 0 0)), 8, 88) := by kernel_rfl
theorem infoIntB : (Tryz.prog.info? 3).map (fun i => (i.zero, i.size, i.bytes)) = some (some (.int .i64 0), 1, 8) := by kernel_rfl
theorem rpc_app (R : List Rp) (r : Rp) : rpc (R ++ [r]) = rpc R ++ rpCells r := by simp [rpc]
theorem Bst.read (h : Bst c t cor del n₀ g10 g12 R dm vr vd W) (hne : g10 ≠ g12) {tmp : Obj} {v' : Value} {r : Rp} (hr : El.RdIn W r.u r.L) (hf : r.L ≠ [] → ∀ i, r.u.ownBlock = some i → n₀ ≤ i ∧ i ≠ g10 ∧ i ≠ g12 ∧ vr.ownBlock ≠ some i ∧ vd.ownBlock ≠ some i) (ho : w1.ownsRow n₀ 53 8 v' (R.length + 1) (rpc R ++ rpCells r)) (hg : (W.alloc tmp).grownBy w1 vr.ownBlock) (ha : v'.ownBlock = vr.ownBlock ∨ v'.ownBlock = some (W.alloc tmp).heap.size) :
    Row w1 g10 24 (bulC c t cor del vr) ∧ Bst c t cor del n₀ g10 g12 (R ++ [r]) dm v' vd (w1.setCell ⟨g10, 4, none⟩ v') ∧ KeepsOthers W (w1.setCell ⟨g10, 4, none⟩ v') ∧ Below n₀ W (w1.setCell ⟨g10, 4, none⟩ v') := by
  have hch := chg_append hg g10 4 v'
  have hs : (W.alloc tmp).heap.size = W.heap.size + 1 := by simp
  have n12 : vr.ownBlock ≠ some g12 := row_not h.row h.dam (by decide)
  have n10 : vr.ownBlock ≠ some g10 := row_not h.row h.bul (by decide)
  have r1 : Row w1 g10 24 (bulC c t cor del vr) := (h.bul.alloc tmp).grown hg (Ne.symm n10)
  have hvd : ∀ i, vd.ownBlock = some i → i ≠ g10 ∧ vr.ownBlock ≠ some i := fun i hi => by
    obtain ⟨cur, hc, -⟩ := row_own h.nums hi
    refine ⟨fun e => row_not h.nums h.bul (by decide) (e ▸ hi), fun e => ?_⟩
    obtain ⟨cur', hc', -⟩ := row_own h.row e
    rw [hc] at hc'; injection hc' with q; injection q with _ q; exact absurd q (by decide)
  have hall : ∀ r' ∈ R ++ [r], El.RdIn W r'.u r'.L ∧ (r'.L ≠ [] → ∀ i, r'.u.ownBlock = some i → n₀ ≤ i ∧ i ≠ g10 ∧ i ≠ g12 ∧ vr.ownBlock ≠ some i ∧ vd.ownBlock ≠ some i) := fun r' h' => by
    rcases List.mem_append.1 h' with q | q
    · exact ⟨h.rds r' q, h.sep r' q⟩
    · rw [List.mem_singleton.1 q]; exact ⟨hr, hf⟩
  have hn0 : n₀ ≤ W.heap.size := Nat.le_trans h.b10 (Nat.le_of_lt h.bul.lt)
  refine ⟨r1, ⟨r1.put 4 v', ?_, ?_, ?_, ?_, ?_, h.b10, h.b12⟩, ?_, (((Below.refl n₀ W).alloc hn0 tmp).grown hg (by simp; omega) fun j ej => row_base h.row ej).setCell (p := ⟨g10, 4, none⟩) h.b10 v'⟩
  · exact (hch.2 _ h.dam.lt (fun q => q.elim n12 (Ne.symm hne))).trans h.dam
  · have hne' : v'.ownBlock ≠ some g10 := row_not ho r1 (by decide)
    have := own_heap (W' := w1.setCell ⟨g10, 4, none⟩ v') ho (fun i hi => Below.heap_setCell w1 ⟨g10, 4, none⟩ v' i (fun e => hne' (by rw [hi]; exact congrArg some e)))
    rw [rpc_app, List.length_append]; exact this
  · exact own_heap h.nums (fun i hi => hch.2 _ (row_size h.nums hi) (fun q => q.elim (hvd i hi).2 (hvd i hi).1))
  · exact fun r' h' => rdIn_kept (hall r' h').1 hch.1 (fun hL i hi => hch.2 _ (rdIn_block (hall r' h').1 hL hi).1 (fun q => q.elim ((hall r' h').2 hL i hi).2.2.2.1 ((hall r' h').2 hL i hi).2.1))
  · intro r' h' hL i hi
    obtain ⟨s0, s1, s2, s3, s4⟩ := (hall r' h').2 hL i hi
    refine ⟨s0, s1, s2, ?_, s4⟩
    rcases ha with e | e
    · rw [e]; exact s3
    · rw [e]; intro q; injection q with q; have := (rdIn_block (hall r' h').1 hL hi).1; omega
  · refine ((KeepsOthers.alloc W tmp).trans (KeepsOthers.of_grownBy hg fun j o ej hj => ?_)).trans (KeepsOthers.setCell _ _ _)
    obtain ⟨cur, hc, hl⟩ := row_own h.row ej
    rw [show (W.alloc tmp).heap[j]? = W.heap[j]? from Below.heap_alloc W _ j hl, hc] at hj
    cases hj; rfl
/-- At the end: whatever cells lie at or above n₀ lie as they lay. -/
theorem Bst.last (h : Bst c t cor del n₀ g10 g12 R dm vr vd W) (hs : W.heap.size ≤ W'.heap.size) (hk : ∀ (i : Nat) (o : Obj), n₀ ≤ i → W.heap[i]? = some o → o.isCells = true → W'.heap[i]? = some o) :
    W'.ownsRow n₀ 53 8 vr R.length (rpc R) ∧ W'.ownsRow n₀ 3 1 vd dm.length (dm.map (Value.int .i64)) ∧ ∀ r ∈ R, El.RdIn W' r.u r.L :=
  ⟨own_heap h.row (fun i hi => by obtain ⟨cur, hc, -⟩ := row_own h.row hi; exact (hk _ _ (row_base h.row hi) hc rfl).trans hc.symm), own_heap h.nums (fun i hi => by obtain ⟨cur, hc, -⟩ := row_own h.nums hi; exact (hk _ _ (row_base h.nums hi) hc rfl).trans hc.symm),
    fun r hr => rdIn_kept (h.rds r hr) hs (fun hL i hi => by obtain ⟨-, o, ho, hc⟩ := rdIn_block (h.rds r hr) hL hi; exact (hk _ _ (h.sep r hr hL i hi).1 ho hc).trans ho.symm)⟩
end
/-- A report as it is compared. -/
abbrev Qr := Int × ByteArray × Int × (Int × Int × Int × Int) × List El.Elt.R
/-- The report of a line. -/
def RldQ (l : List UInt8) (near : Int) (q : Qr) : Prop := ∃ nm, q.2.1 = S nm ∧ Rld l near q.1 nm q.2.2.1 q.2.2.2.1.1 q.2.2.2.1.2.1 q.2.2.2.1.2.2.1 q.2.2.2.1.2.2.2 q.2.2.2.2
theorem RldQ.one {l : List UInt8} {near : Int} {q p : Qr} (h : RldQ l near q) (k : RldQ l near p) : q = p := by
  obtain ⟨k1, n1, t1, ⟨F1, A1, B1, C1⟩, L1⟩ := q
  obtain ⟨k2, n2, t2, ⟨F2, A2, B2, C2⟩, L2⟩ := p
  obtain ⟨a, e1, h⟩ := h
  obtain ⟨b, e2, k⟩ := k
  obtain ⟨h1, h2, h3, h4, h5, h6, h7, h8⟩ := h.one k
  simp only at e1 e2 h1 h2 h3 h4 h5 h6 h7 h8
  subst h1 h2 h3 h4 h5 h6 h7 h8 e1 e2
  rfl
open Classical in
noncomputable def rdl (near : Int) (l : List UInt8) : Option Qr := if h : ∃ q, RldQ l near q then some (Classical.choose h) else none
theorem rdl_yes {l : List UInt8} {near : Int} {q : Qr} (h : RldQ l near q) : rdl near l = some q := by
  unfold rdl
  rw [dif_pos ⟨q, h⟩]
  exact congrArg some ((Classical.choose_spec (⟨q, h⟩ : ∃ q, RldQ l near q)).one h)
theorem rdl_no {l : List UInt8} {near : Int} (h : ∀ k nm t F A B C L, ¬ Rld l near k nm t F A B C L) : rdl near l = none := by
  unfold rdl
  rw [dif_neg]
  rintro ⟨q, nm, -, hq⟩
  exact h _ _ _ _ _ _ _ _ hq
/-- The reports of lines, the numbers of the damaged ones. -/
noncomputable def goods (near : Int) (xs : List (Nat × List UInt8)) : List Qr := xs.filterMap fun x => rdl near x.2
noncomputable def bads (near : Int) (xs : List (Nat × List UInt8)) : List Int := xs.filterMap fun x => match rdl near x.2 with | none => some (x.1 : Int) | some _ => none
theorem goods_yes {near : Int} {xs : List (Nat × List UInt8)} {x : Nat × List UInt8} {q : Qr} (h : rdl near x.2 = some q) : goods near (xs ++ [x]) = goods near xs ++ [q] ∧ bads near (xs ++ [x]) = bads near xs := by
  simp [goods, bads, List.filterMap_append, h]
theorem goods_no {near : Int} {xs : List (Nat × List UInt8)} {x : Nat × List UInt8} (h : rdl near x.2 = none) : goods near (xs ++ [x]) = goods near xs ∧ bads near (xs ++ [x]) = bads near xs ++ [(x.1 : Int)] := by
  simp [goods, bads, List.filterMap_append, h]
end Go.Proofs.YtfnlgfacadmjpaaGreatDoor.Bu
