/- Texts of this proof. -/
import Derived.Test.YtlakgkoohdfiaaaDoorQaj
import Derived.Test.YtlakgkoohdfiaaaDoorQaa
import Derived.Deep.Upon
import Derived.ArgAppend
import Derived.Test.YtlakgkoohdfiaaaDoorCmF
import Derived.Test.YtlakgkoohdfiaaaDoorQab
import Derived.Test.YtlakgkoohdfiaaaDoorQai
namespace Go.Proofs.YtlakgkoohdfiaaaDoor
open Go.RowKit

/-- A report with its readings. -/
structure Rp where
  k : Int
  nm : ByteArray
  t : Int
  F : Int
  A : Int
  B : Int
  C : Int
  u : Value
  L : List El.Elt.R
abbrev Rp.v (r : Rp) : Value := repV r.k r.nm r.t r.F r.A r.B r.C r.u
def Rp.key (r : Rp) : Int × ByteArray × Int × (Int × Int × Int × Int) × List El.Elt.R := (r.k, r.nm, r.t, (r.F, r.A, r.B, r.C), r.L)
def rpCells (r : Rp) : List Value := [.int .i64 r.k, .string r.nm, .int .i64 r.t, .int .i64 r.F, .int .i64 r.A, .int .i64 r.B, .int .i64 r.C, r.u]
def rpc (R : List Rp) : List Value := R.flatMap rpCells
/-- The cells of one report in a row of reports. -/
def At8 (V : World) (g o : Nat) (r : Rp) : Prop :=
  V.cell? ⟨g, o, none⟩ = some (.int .i64 r.k) ∧ V.cell? ⟨g, o + 1, none⟩ = some (.string r.nm) ∧ V.cell? ⟨g, o + 2, none⟩ = some (.int .i64 r.t) ∧ V.cell? ⟨g, o + 3, none⟩ = some (.int .i64 r.F) ∧ V.cell? ⟨g, o + 4, none⟩ = some (.int .i64 r.A) ∧ V.cell? ⟨g, o + 5, none⟩ = some (.int .i64 r.B) ∧ V.cell? ⟨g, o + 6, none⟩ = some (.int .i64 r.C) ∧ V.cell? ⟨g, o + 7, none⟩ = some r.u
theorem At8.under {V w : World} {g o : Nat} {r : Rp} (h : At8 V g o r) (hg : g < V.heap.size) (hb : Below V.heap.size V w) : At8 w g o r := by
  obtain ⟨h0, h1, h2, h3, h4, h5, h6, h7⟩ := h
  exact ⟨(hb.cell (p := ⟨g, o, none⟩) hg).trans h0, (hb.cell (p := ⟨g, o + 1, none⟩) hg).trans h1, (hb.cell (p := ⟨g, o + 2, none⟩) hg).trans h2, (hb.cell (p := ⟨g, o + 3, none⟩) hg).trans h3, (hb.cell (p := ⟨g, o + 4, none⟩) hg).trans h4, (hb.cell (p := ⟨g, o + 5, none⟩) hg).trans h5, (hb.cell (p := ⟨g, o + 6, none⟩) hg).trans h6, (hb.cell (p := ⟨g, o + 7, none⟩) hg).trans h7⟩
theorem rpc_at : ∀ (R : List Rp) (i : Nat) (h : i < R.length), ∀ j : Nat, j < 8 → (rpc R)[i * 8 + j]? = (rpCells R[i])[j]?
  | x :: r, 0, _, j, hj => by
    show (rpCells x ++ rpc r)[0 * 8 + j]? = _
    rw [Nat.zero_mul, Nat.zero_add, List.getElem?_append_left (by exact hj)]
    rfl
  | x :: r, i + 1, h, j, hj => by
    have := rpc_at r i (by simpa using h) j hj
    show (rpCells x ++ rpc r)[(i + 1) * 8 + j]? = _
    rw [List.getElem?_append_right (by show 8 ≤ _; omega), show (i + 1) * 8 + j - (rpCells x).length = i * 8 + j by show (i + 1) * 8 + j - 8 = _; omega]
    exact this
theorem at8_row {V : World} {g : Nat} {R : List Rp} (h : Row V g 38 (rpc R).toArray) (i : Nat) (hi : i < R.length) : At8 V g (i * 8) R[i] := by
  have k : ∀ j < 8, V.cell? ⟨g, i * 8 + j, none⟩ = (rpCells R[i])[j]? := fun j hj => by
    rw [h.cell, List.getElem?_toArray]
    exact rpc_at R i hi j hj
  exact ⟨k 0 (by omega), k 1 (by omega), k 2 (by omega), k 3 (by omega), k 4 (by omega), k 5 (by omega), k 6 (by omega), k 7 (by omega)⟩
/-- A list of reports in memory. -/
def RpsIn (W : World) (v : Value) (R : List Rp) : Prop := ∃ A cap, v = .slice A R.length cap ∧ R.length ≤ cap ∧ cap ≤ 9223372036854775807 ∧ ∀ i (h : i < R.length), ∃ g off, A = some ⟨g, off, none⟩ ∧ g < W.heap.size ∧ At8 W g (off + i * 8) R[i] ∧ El.RdIn W R[i].u R[i].L
theorem RpsIn.under {W W' : World} {v : Value} {R : List Rp} (h : RpsIn W v R) (hb : Below W.heap.size W W') : RpsIn W' v R := by
  obtain ⟨A, cap, h1, h2, h3, h4⟩ := h
  refine ⟨A, cap, h1, h2, h3, fun i hi => ?_⟩
  obtain ⟨g, off, e, hg, h8, hr⟩ := h4 i hi
  exact ⟨g, off, e, Nat.lt_of_lt_of_le hg hb.size, h8.under hg hb, hr.under hb⟩
theorem RpsIn.own {W : World} {base : Nat} {v : Value} {R : List Rp} (h : W.ownsRow base 38 8 v R.length (rpc R)) (hr : ∀ r ∈ R, El.RdIn W r.u r.L) : RpsIn W v R := by
  rcases h.2 with ⟨rfl, h0⟩ | ⟨g, cap, cur, rfl, hb, hg, hc, hm, hs, hx⟩
  · exact ⟨none, 0, by rw [h0], by omega, by omega, fun i hi => by omega⟩
  · refine ⟨some ⟨g, 0, none⟩, cap, rfl, hc, by unfold maxLen at hm; omega, fun i hi => ⟨g, 0, rfl, (Array.getElem?_eq_some_iff.1 hg).1, ?_, hr _ (List.getElem_mem hi)⟩⟩
    have k : ∀ j < 8, W.cell? ⟨g, 0 + i * 8 + j, none⟩ = (rpCells R[i])[j]? := fun j hj => by
      have h1 : W.cell? ⟨g, 0 + i * 8 + j, none⟩ = cur[0 + i * 8 + j]? := by simp [World.cell?, hg]
      rw [h1, ← rpc_at R i hi j hj, ← hx, Nat.zero_add, ← Array.getElem?_toList, List.getElem?_take, if_pos (by omega)]
    have k0 := k 0 (by omega)
    rw [Nat.add_zero] at k0
    exact ⟨k0, k 1 (by omega), k 2 (by omega), k 3 (by omega), k 4 (by omega), k 5 (by omega), k 6 (by omega), k 7 (by omega)⟩
end Go.Proofs.YtlakgkoohdfiaaaDoor

namespace Go.Proofs.YtlakgkoohdfiaaaDoor
open Go.RowKit

theorem row_own {W : World} {base size n : Nat} {e : TypeId} {v : Value} {xs : List Value} (h : W.ownsRow base e size v n xs) {i : Nat} (hi : v.ownBlock = some i) : ∃ cur, W.heap[i]? = some (.cells cur e (0, 0)) ∧ i < W.heap.size := by
  rcases h.2 with ⟨rfl, -⟩ | ⟨g, cap, cur, rfl, hb, hg, -⟩
  · cases hi
  · cases hi
    exact ⟨cur, hg, (Array.getElem?_eq_some_iff.1 hg).1⟩
theorem row_size {W : World} {base size n : Nat} {e : TypeId} {v : Value} {xs : List Value} (h : W.ownsRow base e size v n xs) {i : Nat} (hi : v.ownBlock = some i) : i < W.heap.size := by
  obtain ⟨_, -, q⟩ := row_own h hi
  exact q
theorem row_base {W : World} {base size n : Nat} {e : TypeId} {v : Value} {xs : List Value} (h : W.ownsRow base e size v n xs) {i : Nat} (hi : v.ownBlock = some i) : base ≤ i := by
  rcases h.2 with ⟨rfl, -⟩ | ⟨g, cap, cur, rfl, hb, hg, -⟩
  · cases hi
  · cases hi; exact hb
theorem row_form {W : World} {base size n : Nat} {e : TypeId} {v : Value} {xs : List Value} (h : W.ownsRow base e size v n xs) : ∃ A cap, v = .slice A n cap := by
  rcases h.2 with ⟨rfl, rfl⟩ | ⟨g, cap, cur, rfl, hb, hg, -⟩
  · exact ⟨_, _, rfl⟩
  · exact ⟨_, _, rfl⟩
theorem own_heap {W W' : World} {base size n : Nat} {e : TypeId} {v : Value} {xs : List Value} (h : W.ownsRow base e size v n xs) (hk : ∀ i, v.ownBlock = some i → W'.heap[i]? = W.heap[i]?) : W'.ownsRow base e size v n xs := by
  refine ⟨h.1, ?_⟩
  rcases h.2 with h0 | ⟨g, cap, cur, rfl, h1, h2, h3⟩
  · exact .inl h0
  · exact .inr ⟨g, cap, cur, rfl, h1, (hk g rfl).trans h2, h3⟩
theorem row_not {W : World} {base size n g : Nat} {e t : TypeId} {v : Value} {xs : List Value} {cs : Array Value} (h : W.ownsRow base e size v n xs) (hr : Row W g t cs) (ht : t ≠ e) : v.ownBlock ≠ some g := fun q => by
  obtain ⟨cur, hc, -⟩ := row_own h q
  have := hc.symm.trans hr
  injection this with this
  injection this with _ this
  exact ht this.symm
theorem eight_at {Y : World} {g : Nat} {t : TypeId} {r : Rp} (h : Row Y g t (repC r.k r.nm r.t r.F r.A r.B r.C r.u)) : ∀ (j : Nat) (z : Value), (rpCells r)[j]? = some z → Y.cell? ((⟨g, 0, none⟩ : Addr).add j) = some z := fun j z hz => by
  have hj : j < 8 := (List.getElem?_eq_some_iff.1 hz).1
  have e : ((⟨g, 0, none⟩ : Addr).add j) = ⟨g, j, none⟩ := by rw [Addr.add_lit, Nat.zero_add]
  rw [e, h.cell j, ← hz]
  rcases (by omega : j = 0 ∨ j = 1 ∨ j = 2 ∨ j = 3 ∨ j = 4 ∨ j = 5 ∨ j = 6 ∨ j = 7) with rfl | rfl | rfl | rfl | rfl | rfl | rfl | rfl <;> rfl
theorem infoReport : (Tryd.prog.info? 38).map (fun i => (i.zero, i.size, i.bytes)) = some (some (repV 0 ⟨#[]⟩ 0 0 0 0 0 (.slice none 0 0)), 8, 88) := by kernel_rfl
theorem rpc_app (R : List Rp) (r : Rp) : rpc (R ++ [r]) = rpc R ++ rpCells r := by simp [rpc]
/-- APPEND TO AN OWNED ROW, NOTHING OR MORE, FOR THE WALK. -/
theorem wpList_append_own' {P : Program} {ops : Array Oper} {rest : List Oper} {o : Oper} {a : Act} {w : World} {Q : Exit → Act → World → Prop} (hgd : o.guard = none) (s x : Operand) (t : TypeId)
    (ho : o.op = .call { callee := .builtin .append, args := #[s, x], argTypes := #[t, t] })
    (base : Nat) (e : TypeId) (i : TypeInfo) (z : Value) (size bytes : Nat) (ht : P.underlying t = some (.slice e)) (hi : P.info? e = some i) (hz : i.zero = some z)
    (hsize : i.size = size) (hby : i.bytes = bytes) (hzs : z.cells.size = size) (hsz : 0 < size)
    (v : Value) (n : Nat) (xs : List Value) (hs : a.eval s = v) (hown : w.ownsRow base e size v n xs)
    (ad : Addr) (m c : Nat) (news : List Value) (hx : a.eval x = .slice (some ad) m c) (hl : news.length = m * size) (hnews : ∀ j u, news[j]? = some u → w.cell? (ad.add j) = some u) (h1 : ∀ u ∈ news, u.oneCell' = true)
    (h63 : n + m ≤ maxLen) (hbytes : (n + m) * bytes ≤ 140737488355328) (hbase : base ≤ w.heap.size)
    (h : ∀ v' w', w'.ownsRow base e size v' (n + m) (xs ++ news) → w.grownBy w' v.ownBlock → wpList P ops Q rest (a.put o.dst v') w') : wpList P ops Q (o :: rest) a w := by
  refine wpList_plain hgd fun _ hK => ?_
  obtain ⟨v', w', hr, h2, h3, -⟩ := run_append_own (P := P) w base t o.type e i z size bytes ht hi hz hsize hby hzs hsz v n xs hown ad m c news hl hnews h1 h63 hbytes hbase
  unfold Oper.wp execOp
  simp only [ho, resolve, invoke, builtin, Sem.run_bind, Sem.run_pure, Result.andThen_ok, List.map_toArray, List.map_cons, List.map_nil, hs, hx, hr]
  exact hK _ _ (h v' w' h2 h3)
theorem grown_tr {a c d : World} {r : Option Nat} (h : a.grownBy c r) (k : c.grownBy d r) : a.grownBy d r :=
  ⟨k.os.trans h.os, k.tape.trans h.tape, k.output.trans h.output, Nat.le_trans h.size k.size, fun i hi hr => (k.block i (Nat.lt_of_lt_of_le hi h.size) hr).trans (h.block i hi hr)⟩
/-- A report that is drawn at a place. -/
def Pd (m : Int) (r : Rp) : Prop := nameOk r.nm = true ∧ (0 ≤ r.t ∧ r.t ≤ 52595999) ∧ El.Elt.vld r.L = 0 ∧ nrm r.F r.A r.B r.C = true ∧ (m - 20160 < r.t ∧ r.t < m + 20160) ∧ 1 ≤ r.k ∧ r.k ≤ 3
/-- A list of such reports. -/
structure PL (W : World) (b : Nat) (w : World) (m : Int) (R : List Rp) (v : Value) (Y : World) : Prop where
  src : Src W b Y
  gro : w.grownBy Y (some b)
  own : Y.ownsRow w.heap.size 38 8 v R.length (rpc R)
  rds : ∀ r ∈ R, ∃ base, b < base ∧ Y.ownsRow base 81 2 r.u r.L.length (El.rdc r.L)
  val : ∀ r ∈ R, Pd m r
section
variable {W w Y Y' w9 : World} {b : Nat} {m : Int} {R : List Rp} {v : Value}
theorem PL.step (h : PL W b w m R v Y) (hb : b < w.heap.size) (hs : Src W b Y') (hg : Y.grownBy Y' (some b)) : PL W b w m R v Y' :=
  ⟨hs, grown_tr h.gro hg, own_heap h.own (fun i hi => hg.block i (row_size h.own hi) (fun e => by injection e with e; have := row_base h.own hi; omega)),
    fun r hr => by
      obtain ⟨base, hbb, ho⟩ := h.rds r hr
      exact ⟨base, hbb, own_heap ho (fun i hi => hg.block i (row_size ho hi) (fun e => by injection e with e; have := row_base ho hi; omega))⟩, h.val⟩
theorem PL.ins (h : PL W b w m R v Y) : RpsIn Y v R := RpsIn.own h.own (fun r hr => by obtain ⟨base, -, ho⟩ := h.rds r hr; exact El.RdIn.own ho)
theorem PL.set (h : PL W b w m R v Y) (hb : b < w.heap.size) (hW : W.heap.size ≤ w.heap.size) {g : Nat} (j : Nat) (x : Value) (hg : w.heap.size ≤ g) (hne : v.ownBlock ≠ some g) {cs : Array Value} (hr : Row Y g 38 cs) : PL W b w m R v (Y.setCell ⟨g, j, none⟩ x) := by
  have key : ∀ i, i ≠ g → (Y.setCell ⟨g, j, none⟩ x).heap[i]? = Y.heap[i]? := fun i hi => Below.heap_setCell Y ⟨g, j, none⟩ x i hi
  have hgb : Y.grownBy (Y.setCell ⟨g, j, none⟩ x) (some g) := ⟨rfl, rfl, rfl, by simp [World.setCell], fun i _ hi => key i (fun e => hi (by rw [e]))⟩
  refine ⟨Pl.src_set h.src g j x (Nat.le_trans hW hg) (by omega), ?_, own_heap h.own (fun i hi => key i (fun e => hne (by rw [← e]; exact hi))), fun r hr' => ?_, h.val⟩
  · exact ⟨h.gro.os, h.gro.tape, h.gro.output, Nat.le_trans h.gro.size hgb.size, fun i hi hne' => (key i (by omega)).trans (h.gro.block i hi hne')⟩
  · obtain ⟨base, hbb, ho⟩ := h.rds r hr'
    exact ⟨base, hbb, own_heap ho (fun i hi => key i (fun e => row_not ho hr (by decide) (e ▸ hi)))⟩
theorem PL.under (h : PL W b w m R v Y) (hbw : b < w.heap.size) (hb : Below Y.heap.size Y Y') : PL W b w m R v Y' := h.step hbw (h.src.under hb) (grown_below hb)
theorem PL.app (h : PL W b w m R v Y) (hbw : b < w.heap.size) (hW : W.heap.size ≤ w.heap.size) {tmp : Obj} {r : Rp} {v' : Value} {base : Nat} (hbb : b < base) (hr : Y.ownsRow base 81 2 r.u r.L.length (El.rdc r.L)) (hv : Pd m r)
    (ho : w9.ownsRow w.heap.size 38 8 v' (R.length + 1) (rpc R ++ rpCells r)) (hg : (Y.alloc tmp).grownBy w9 v.ownBlock) : PL W b w m (R ++ [r]) v' w9 := by
  have hal : Below Y.heap.size Y (Y.alloc tmp) := (Below.refl _ _).alloc (Nat.le_refl _) _
  have hs := h.src.under hal
  obtain ⟨cs, hrow⟩ := El.src_row hs
  have hnb : v.ownBlock ≠ some b := fun e => by have := row_base h.own e; omega
  refine ⟨El.src_kept hs hg hnb (fun i e => Nat.le_trans hW (row_base h.own e)), ?_, by rw [rpc_app, List.length_append]; exact ho, ?_, ?_⟩
  · have h1 := h.gro.size
    refine ⟨hg.os.trans h.gro.os, hg.tape.trans h.gro.tape, hg.output.trans h.gro.output, Nat.le_trans h1 (Nat.le_trans hal.size hg.size), fun i hi hne => ?_⟩
    exact (hg.block i (by have := hal.size; omega) (fun e => by have := row_base h.own e.symm; omega)).trans ((Below.heap_alloc Y _ i (by omega)).trans (h.gro.block i hi hne))
  · intro r' hr'
    have key : ∀ {r0 : Rp} {base0 : Nat}, Y.ownsRow base0 81 2 r0.u r0.L.length (El.rdc r0.L) → w9.ownsRow base0 81 2 r0.u r0.L.length (El.rdc r0.L) := fun {r0 base0} hq =>
      own_heap hq (fun i hi => (hg.block i (by have := row_size hq hi; have := hal.size; omega) (fun e => by
        obtain ⟨c1, h1, -⟩ := row_own h.own e.symm
        obtain ⟨c2, h2, -⟩ := row_own hq hi
        rw [h1] at h2; injection h2 with h2; injection h2 with _ h2; exact absurd h2 (by decide))).trans (Below.heap_alloc Y _ i (row_size hq hi)))
    rcases List.mem_append.1 hr' with q | q
    · obtain ⟨base0, hb0, ho0⟩ := h.rds r' q
      exact ⟨base0, hb0, key ho0⟩
    · rw [List.mem_singleton.1 q]; exact ⟨base, hbb, key hr⟩
  · intro r' hr'
    rcases List.mem_append.1 hr' with q | q
    · exact h.val r' q
    · rw [List.mem_singleton.1 q]; exact hv
/-- What is known while a report is moved to its place. -/
structure Pw (W : World) (b : Nat) (w : World) (m : Int) (R : List Rp) (v : Value) (gp gt : Nat) (p1 p2 p3 p4 : Int) (r : Rp) (Y : World) : Prop where
  pl : PL W b w m R v Y
  pb : Row Y gp 27 #[.int .i64 p1, .int .i64 p2, .int .i64 p3, .int .i64 p4]
  rb : Row Y gt 38 (repC r.k r.nm r.t r.F r.A r.B r.C r.u)
  rd : ∃ base, b < base ∧ Y.ownsRow base 81 2 r.u r.L.length (El.rdc r.L)
  ne : v.ownBlock ≠ some gt
  bw : b < w.heap.size
  hW : W.heap.size ≤ w.heap.size
  hp : w.heap.size ≤ gp
  ht : w.heap.size ≤ gt
variable {gp gt : Nat} {p1 p2 p3 p4 : Int} {r : Rp}
theorem Pw.step (h : Pw W b w m R v gp gt p1 p2 p3 p4 r Y) (hs : Src W b Y') (hg : Y.grownBy Y' (some b)) : Pw W b w m R v gp gt p1 p2 p3 p4 r Y' := by
  have hb := h.bw
  have hp := h.hp
  have ht := h.ht
  refine ⟨h.pl.step h.bw hs hg, h.pb.grown hg (fun e => by injection e with e; omega), h.rb.grown hg (fun e => by injection e with e; omega), ?_, h.ne, h.bw, h.hW, h.hp, h.ht⟩
  obtain ⟨base, hbb, ho⟩ := h.rd
  exact ⟨base, hbb, own_heap ho (fun i hi => hg.block i (row_size ho hi) (fun e => by injection e with e; have := row_base ho hi; omega))⟩
theorem Pw.under (h : Pw W b w m R v gp gt p1 p2 p3 p4 r Y) (hb : Below Y.heap.size Y Y') : Pw W b w m R v gp gt p1 p2 p3 p4 r Y' := h.step (h.pl.src.under hb) (grown_below hb)
theorem Pw.set1 (h : Pw W b w m R v gp gt p1 p2 p3 p4 r Y) (j : Nat) (x : Value) (r' : Rp) (hu : r'.u = r.u) (hL : r'.L = r.L) (hc : (repC r.k r.nm r.t r.F r.A r.B r.C r.u).setIfInBounds j x = repC r'.k r'.nm r'.t r'.F r'.A r'.B r'.C r'.u) : Pw W b w m R v gp gt p1 p2 p3 p4 r' (Y.setCell ⟨gt, j, none⟩ x) := by
  have hne : gp ≠ gt := fun e => by
    have h1 := h.pb; have h2 := h.rb
    rw [e] at h1
    unfold Row at h1 h2
    rw [h1] at h2
    injection h2 with h2; injection h2 with _ h2; exact absurd h2 (by decide)
  refine ⟨h.pl.set h.bw h.hW j x h.ht h.ne h.rb, h.pb.far (p := ⟨gt, j, none⟩) (Ne.symm hne) x, hc ▸ h.rb.put j x, ?_, h.ne, h.bw, h.hW, h.hp, h.ht⟩
  obtain ⟨base, hbb, ho⟩ := h.rd
  rw [hu, hL]
  exact ⟨base, hbb, own_heap ho (fun i hi => Below.heap_setCell Y ⟨gt, j, none⟩ x i (fun e => row_not ho h.rb (by decide) (by have e' : i = gt := e; rw [← e']; exact hi)))⟩
theorem Pw.put (h : Pw W b w m R v gp gt p1 p2 p3 p4 r Y) (F A B C : Int) : Pw W b w m R v gp gt p1 p2 p3 p4 ⟨r.k, r.nm, r.t, F, A, B, C, r.u, r.L⟩ ((((Y.setCell ⟨gt, 3, none⟩ (.int .i64 F)).setCell ⟨gt, 4, none⟩ (.int .i64 A)).setCell ⟨gt, 5, none⟩ (.int .i64 B)).setCell ⟨gt, 6, none⟩ (.int .i64 C)) :=
  (((h.set1 3 (.int .i64 F) ⟨r.k, r.nm, r.t, F, r.A, r.B, r.C, r.u, r.L⟩ rfl rfl rfl).set1 4 (.int .i64 A) ⟨r.k, r.nm, r.t, F, A, r.B, r.C, r.u, r.L⟩ rfl rfl rfl).set1 5 (.int .i64 B) ⟨r.k, r.nm, r.t, F, A, B, r.C, r.u, r.L⟩ rfl rfl rfl).set1 6 (.int .i64 C) ⟨r.k, r.nm, r.t, F, A, B, C, r.u, r.L⟩ rfl rfl rfl
end
/-- What Placed leaves. -/
def PlO (W : World) (b : Nat) (m : Int) (n : Nat) (w : World) (e : Ending) (w' : World) : Prop := ∃ (R : List Rp) (v : Value), e = .returned v ∧ R.length ≤ n ∧ PL W b w m R v w'
end Go.Proofs.YtlakgkoohdfiaaaDoor

namespace Go.Proofs.YtlakgkoohdfiaaaDoor
open Go.RowKit

set_option maxRecDepth 100000 in
set_option maxHeartbeats 4000000 in
theorem placed_any (W : World) (b : Nat) (w : World) (m : Int) (n : Nat) (h : Src W b w) (hn : n ≤ 20) (m1 : 0 ≤ m) (m2 : m ≤ 52595999) :
    Calls Tryd.prog 16 #[.pointer (some ⟨b, 0, none⟩), .int .i64 (n : Int), .int .i64 m] w (PlO W b m n w) := by
  have hbl := src_lt h
  have hW := h.below.size
  obtain ⟨i0, hi, hz0, hz1, hz2⟩ := info_parts infoReport
  go_enter Tryd.func16, Tryd.ntmps16
  go_wp2_with fail
  refine (place_any W b _ h).mono ?_
  rintro e w1 ⟨P1, P2, P3, P4, hn0, rfl, s1, g1⟩
  have HN0 := Lib.hid hn0
  clear hn0
  go_upto_region 3 with fail
  have ba := (Below.refl w1.heap.size w1).alloc (Nat.le_refl _) (.cells #[.int .i64 P1, .int .i64 P2, .int .i64 P3, .int .i64 P4] 27)
  have HR : Hid (PL W b w m [] (.slice none 0 0) (w1.alloc (.cells #[.int .i64 P1, .int .i64 P2, .int .i64 P3, .int .i64 P4] 27)) ∧ Row (w1.alloc (.cells #[.int .i64 P1, .int .i64 P2, .int .i64 P3, .int .i64 P4] 27)) w1.heap.size 27 #[.int .i64 P1, .int .i64 P2, .int .i64 P3, .int .i64 P4] ∧ w.heap.size ≤ w1.heap.size) := Lib.hid ⟨⟨s1.under ba, grown_tr g1 (grown_below ba), World.ownsRow_nil _ _ _ _, fun r hr => absurd hr List.not_mem_nil, fun r hr => absurd hr List.not_mem_nil⟩, Row.new _ _ _, g1.size⟩
  refine forget (fun Y => Hid (PL W b w m [] (.slice none 0 0) Y ∧ Row Y w1.heap.size 27 #[.int .i64 P1, .int .i64 P2, .int .i64 P3, .int .i64 P4] ∧ w.heap.size ≤ w1.heap.size)) HR ?_
  clear HR ba s1 g1
  generalize w1.heap.size = gp at *
  rintro Y HY
  go_wp2_with fail
  refine (n_any W b _ ((n : Int) + 1) HY.out.1.src (by omega) (by omega)).mono ?_
  rintro e w2 ⟨x, ⟨x1, x2⟩, rfl, hs, hg⟩
  have H2 : Hid (PL W b w m [] (.slice none 0 0) w2 ∧ Row w2 gp 27 #[.int .i64 P1, .int .i64 P2, .int .i64 P3, .int .i64 P4] ∧ w.heap.size ≤ gp) := Lib.hid ⟨HY.out.1.step hbl hs hg, HY.out.2.1.grown hg (fun e => by injection e with e; have := HY.out.2.2; omega), HY.out.2.2⟩
  clear hs hg HY
  obtain ⟨j0, rfl⟩ : ∃ j0 : Nat, x = (j0 : Int) := ⟨x.toNat, by omega⟩
  go_wp2_with fail
  go_loopw [7, 9] (fun v i Y => ∃ (j : Nat) (R : List Rp), i = .int .i64 j ∧ j + R.length ≤ n ∧ Hid (PL W b w m R v Y ∧ Row Y gp 27 #[.int .i64 P1, .int .i64 P2, .int .i64 P3, .int .i64 P4] ∧ w.heap.size ≤ gp)) (fun _ i _ => (intOf i).toNat)
  case atStart => exact ⟨j0, [], rfl, by simp; omega, H2⟩
  case round =>
    clear H2
    obtain ⟨j, R, rfl, hjn, M⟩ := hrel
    obtain ⟨Ar, cr, er⟩ := row_form M.out.1.own
    subst er
    by_cases hj : 0 < j
    · have k0 : (0 : Int) < (j : Int) := by omega
      go_wp2_with fail
      refine (report_any W b wr m M.out.1.src m1 m2).mono ?_
      rintro e w3 ⟨k, nm, t, F, A, B, C, u, L, hV, hT, rfl, hG⟩
      have hwr : b < wr.heap.size := src_lt M.out.1.src
      have M3 := M.out.1.step hbl hG.src hG.gro
      have R3 := M.out.2.1.grown hG.gro (fun e => by injection e with e; have := M.out.2.2; omega)
      obtain ⟨Au, cu, eu⟩ := row_form hG.own
      subst eu
      have ba := (Below.refl w3.heap.size w3).alloc (Nat.le_refl _) (.cells (repC k nm t F A B C (.slice Au L.length cu)) 38)
      have W3 : Hid (Pw W b w m R (.slice Ar R.length cr) gp w3.heap.size P1 P2 P3 P4 (⟨k, nm, t, F, A, B, C, .slice Au L.length cu, L⟩ : Rp) (w3.alloc (.cells (repC k nm t F A B C (.slice Au L.length cu)) 38))) := Lib.hid ⟨M3.under hbl ba, R3.under ba, Row.new _ _ _, ⟨wr.heap.size, hwr, El.own_under hG.own ba⟩, fun e => by have := row_size M3.own e; omega, hbl, hW, M.out.2.2, M3.gro.size⟩
      have HV : Hid (nameOk nm = true ∧ (0 ≤ t ∧ t ≤ 52595999) ∧ El.Elt.vld L = 0 ∧ (m - 20160 < t ∧ t < m + 20160) ∧ 1 ≤ k ∧ k ≤ 3) := Lib.hid ⟨hV.name, hV.time, hV.list, hT, hV.kind⟩
      clear M M3 R3 ba hG hV hT hwr
      go_upto_region 7 with fail
      refine forget (fun Y => Hid (Pw W b w m R (.slice Ar R.length cr) gp w3.heap.size P1 P2 P3 P4 (⟨k, nm, t, F, A, B, C, .slice Au L.length cu, L⟩ : Rp) Y)) W3 ?_
      clear W3
      generalize w3.heap.size = gt at *
      rintro Y HY
      go_wp2_with fail
      refine (place_any W b _ HY.out.pl.src).mono ?_
      rintro e w4 ⟨F1, A1, B1, C1, hn1, rfl, s4, g4⟩
      have H4 := HY.out.step s4 g4
      have f3 := H4.rb.thaw 3
      have f4 := H4.rb.thaw 4
      have f5 := H4.rb.thaw 5
      have f6 := H4.rb.thaw 6
      obtain ⟨q0, q1, q2, q3, q4, q5, q6, q7⟩ := row8 H4.rb
      have H5 := Lib.hid (H4.put F1 A1 B1 C1)
      have HN := Lib.hid hn1
      clear H4 s4 g4 HY hn1
      go_upto_region 8 with fail
      refine forget (fun Y => Hid (Pw W b w m R (.slice Ar R.length cr) gp gt P1 P2 P3 P4 (⟨k, nm, t, F1, A1, B1, C1, .slice Au L.length cu, L⟩ : Rp) Y)) H5 ?_
      clear H5 f3 f4 f5 f6 q0 q1 q2 q3 q4 q5 q6 q7
      rintro Y5 H5
      go_wp2_with fail
      refine (n_any W b _ 2 H5.out.pl.src (by omega) (by omega)).mono ?_
      rintro e w6 ⟨x, ⟨x1, x2⟩, rfl, s6, g6⟩
      have H6 := Lib.hid (H5.out.step s6 g6)
      clear s6 g6 H5
      by_cases hx : x = 0
      · subst hx
        have f3 := H6.out.rb.thaw 3
        have f4 := H6.out.rb.thaw 4
        have f5 := H6.out.rb.thaw 5
        have f6 := H6.out.rb.thaw 6
        obtain ⟨q0, q1, q2, q3, q4, q5, q6, q7⟩ := row8 H6.out.rb
        obtain ⟨y0, y1, y2, y3⟩ := row4 H6.out.pb
        have H7 := Lib.hid (H6.out.put P1 P2 P3 P4)
        clear H6
        go_upto_region 10 with fail
        refine forget (fun Y => Hid (Pw W b w m R (.slice Ar R.length cr) gp gt P1 P2 P3 P4 (⟨k, nm, t, P1, P2, P3, P4, .slice Au L.length cu, L⟩ : Rp) Y)) H7 ?_
        clear H7 f3 f4 f5 f6 q0 q1 q2 q3 q4 q5 q6 q7 y0 y1 y2 y3
        rintro Y7 H7
        have HC8 := Lib.hid (eight_at (r := (⟨k, nm, t, P1, P2, P3, P4, .slice Au L.length cu, L⟩ : Rp)) (Row.new Y7 (repC k nm t P1 P2 P3 P4 (.slice Au L.length cu)) 38))
        have HRW := Lib.hid (own_heap (W' := Y7.alloc (.cells (repC k nm t P1 P2 P3 P4 (.slice Au L.length cu)) 38)) H7.out.pl.own (fun i hi => Below.heap_alloc Y7 _ i (row_size H7.out.pl.own hi)))
        have hsz : w.heap.size ≤ Y7.heap.size := H7.out.pl.gro.size
        obtain ⟨q0, q1, q2, q3, q4, q5, q6, q7⟩ := row8 H7.out.rb
        have HPB := Lib.hid H7.out.pb
        have hgpw := H7.out.hp
        have HO := Lib.hid H7.out.rd
        have M7 := Lib.hid H7.out.pl
        have HVV : Hid (Pd m (⟨k, nm, t, P1, P2, P3, P4, .slice Au L.length cu, L⟩ : Rp)) := Lib.hid ⟨HV.out.1, HV.out.2.1, HV.out.2.2.1, HN0.out, HV.out.2.2.2.1, HV.out.2.2.2.2⟩
        clear H7
        go_wp2_with (at_builtin; refine wpList_append_own' rfl (.tmp 32) (.tmp 34) 25 rfl w.heap.size 38 i0 (repV 0 ⟨#[]⟩ 0 0 0 0 0 (.slice none 0 0)) 8 88 Tryd.underlying25 hi hz0 hz1 hz2 rfl (by decide) (.slice Ar R.length cr) R.length (rpc R) rfl HRW.out ⟨Y7.heap.size, 0, none⟩ 1 1 (rpCells (⟨k, nm, t, P1, P2, P3, P4, .slice Au L.length cu, L⟩ : Rp)) rfl rfl HC8.out (fun u hu => by simp only [rpCells, List.mem_cons, List.not_mem_nil, or_false] at hu; rcases hu with rfl | rfl | rfl | rfl | rfl | rfl | rfl | rfl <;> rfl) (by unfold maxLen; omega) (by omega) (Nat.le_trans hsz ((Below.refl _ _).alloc (Nat.le_refl _) _ : Below Y7.heap.size Y7 _).size) ?_; intro v' w9 ho' hg'; obtain ⟨A', cap', ev⟩ : ∃ A' cap', v' = .slice A' (R.length + 1) cap' := row_form ho'; subst ev)
        obtain ⟨base, hbb, hrd⟩ := HO.out
        have HA := M7.out.app hbl hW hbb hrd HVV.out ho' hg'
        have HPb : Row w9 gp 27 #[.int .i64 P1, .int .i64 P2, .int .i64 P3, .int .i64 P4] := (HPB.out.alloc _).grown hg' (fun e => row_not M7.out.own HPB.out (by decide) e.symm)
        have HB := Lib.hid (And.intro HA (And.intro HPb hgpw))
        clear ho' hg' M7 HO HVV HC8 HRW HA HPb q0 q1 q2 q3 q4 q5 q6 q7 hrd HPB
        go_roundw
        case rel => exact ⟨j - 1, R ++ [⟨k, nm, t, P1, P2, P3, P4, .slice Au L.length cu, L⟩], by go_num, by simp; omega, HB⟩
        case measure => simp [intOf]; omega
      · have kx : (x == 0) = false := beq_eq_false_iff_ne.2 hx
        go_upto_region 10 with fail
        refine forget (fun Y => Hid (Pw W b w m R (.slice Ar R.length cr) gp gt P1 P2 P3 P4 (⟨k, nm, t, F1, A1, B1, C1, .slice Au L.length cu, L⟩ : Rp) Y)) H6 ?_
        clear H6
        rintro Y7 H7
        have HC8 := Lib.hid (eight_at (r := (⟨k, nm, t, F1, A1, B1, C1, .slice Au L.length cu, L⟩ : Rp)) (Row.new Y7 (repC k nm t F1 A1 B1 C1 (.slice Au L.length cu)) 38))
        have HRW := Lib.hid (own_heap (W' := Y7.alloc (.cells (repC k nm t F1 A1 B1 C1 (.slice Au L.length cu)) 38)) H7.out.pl.own (fun i hi => Below.heap_alloc Y7 _ i (row_size H7.out.pl.own hi)))
        have hsz : w.heap.size ≤ Y7.heap.size := H7.out.pl.gro.size
        obtain ⟨q0, q1, q2, q3, q4, q5, q6, q7⟩ := row8 H7.out.rb
        have HPB := Lib.hid H7.out.pb
        have hgpw := H7.out.hp
        have HO := Lib.hid H7.out.rd
        have M7 := Lib.hid H7.out.pl
        have HVV : Hid (Pd m (⟨k, nm, t, F1, A1, B1, C1, .slice Au L.length cu, L⟩ : Rp)) := Lib.hid ⟨HV.out.1, HV.out.2.1, HV.out.2.2.1, HN.out, HV.out.2.2.2.1, HV.out.2.2.2.2⟩
        clear H7
        go_wp2_with (at_builtin; refine wpList_append_own' rfl (.tmp 32) (.tmp 34) 25 rfl w.heap.size 38 i0 (repV 0 ⟨#[]⟩ 0 0 0 0 0 (.slice none 0 0)) 8 88 Tryd.underlying25 hi hz0 hz1 hz2 rfl (by decide) (.slice Ar R.length cr) R.length (rpc R) rfl HRW.out ⟨Y7.heap.size, 0, none⟩ 1 1 (rpCells (⟨k, nm, t, F1, A1, B1, C1, .slice Au L.length cu, L⟩ : Rp)) rfl rfl HC8.out (fun u hu => by simp only [rpCells, List.mem_cons, List.not_mem_nil, or_false] at hu; rcases hu with rfl | rfl | rfl | rfl | rfl | rfl | rfl | rfl <;> rfl) (by unfold maxLen; omega) (by omega) (Nat.le_trans hsz ((Below.refl _ _).alloc (Nat.le_refl _) _ : Below Y7.heap.size Y7 _).size) ?_; intro v' w9 ho' hg'; obtain ⟨A', cap', ev⟩ : ∃ A' cap', v' = .slice A' (R.length + 1) cap' := row_form ho'; subst ev)
        obtain ⟨base, hbb, hrd⟩ := HO.out
        have HA := M7.out.app hbl hW hbb hrd HVV.out ho' hg'
        have HPb : Row w9 gp 27 #[.int .i64 P1, .int .i64 P2, .int .i64 P3, .int .i64 P4] := (HPB.out.alloc _).grown hg' (fun e => row_not M7.out.own HPB.out (by decide) e.symm)
        have HB := Lib.hid (And.intro HA (And.intro HPb hgpw))
        clear ho' hg' M7 HO HVV HC8 HRW HA HPb q0 q1 q2 q3 q4 q5 q6 q7 hrd HPB
        go_roundw
        case rel => exact ⟨j - 1, R ++ [⟨k, nm, t, F1, A1, B1, C1, .slice Au L.length cu, L⟩], by go_num, by simp; omega, HB⟩
        case measure => simp [intOf]; omega
    · have k0 : ¬ (0 : Int) < (j : Int) := by omega
      go_wp2_with fail
      go_ret
      exact ⟨R, _, rfl, by omega, M.out.1⟩
end Go.Proofs.YtlakgkoohdfiaaaDoor

namespace Go.Proofs.YtlakgkoohdfiaaaDoor
open Go.RowKit

/-- Both tables. -/
structure Env (w : World) : Prop where
  clk : Ck.Tab w
  elt : El.Tab w
theorem Env.under {w w' : World} (h : Env w) (hb : Below w.heap.size w w') : Env w' := ⟨h.clk.under hb, h.elt.under hb⟩
open Classical in
/-- The month of a minute. -/
noncomputable def mth (t : Int) : Int := if h : ∃ m y d hh i : Int, Ck.Cal.vld y m d hh i = true ∧ Ck.Cal.num y m d hh i = t then h.choose else 0
theorem mth_eq {y m d hh i t : Int} (hv : Ck.Cal.vld y m d hh i = true) (ht : Ck.Cal.num y m d hh i = t) : mth t = m := by
  have h : ∃ m y d hh i : Int, Ck.Cal.vld y m d hh i = true ∧ Ck.Cal.num y m d hh i = t := ⟨m, y, d, hh, i, hv, ht⟩
  unfold mth
  rw [dif_pos h]
  obtain ⟨y', d', h', i', hv', ht'⟩ := h.choose_spec
  exact (Ck.Cal.num_inj hv' hv (ht'.trans ht.symm)).2.1
/-- The face and the month, and the error. -/
noncomputable def fam (F A B C t : Int) : Int × Int × Int := if Pl.vb F A B C = true ∧ Ck.Cal.rng t = true then ((Pl.Ico.nf F.toNat A B C : Nat), mth t, 0) else (0, 0, 1)
set_option maxHeartbeats 2000000 in
theorem fam_any (F A B C t : Int) (w : World) (hE : Env w) :
    Calls Tryd.prog 63 #[.agg #[.int .i64 F, .int .i64 A, .int .i64 B, .int .i64 C], .int .i64 t] w fun e w' => e = .returned (.tuple #[.int .i64 (fam F A B C t).1, .int .i64 (fam F A B C t).2.1, .int .i64 (fam F A B C t).2.2]) ∧ Below w.heap.size w w' := by
  have b0 : Below w.heap.size w (w.alloc (.cells #[.int .i64 F, .int .i64 A, .int .i64 B, .int .i64 C] 27)) := (Below.refl _ _).alloc (Nat.le_refl _) _
  have r0 := Row.new w #[.int .i64 F, .int .i64 A, .int .i64 B, .int .i64 C] 27
  have hE0 := hE.under b0
  clear hE
  cases hv : Pl.vb F A B C with
  | false =>
    have HF : Hid (fam F A B C t = (0, 0, 1)) := Lib.hid (by unfold fam; rw [if_neg (by rw [hv]; simp)])
    rw [HF.out]
    have HV := Lib.hid hv; clear hv
    go_enter Tryd.func63, Tryd.ntmps63
    obtain ⟨p0, p1, p2, p3⟩ := row4 r0
    go_wp2_with fail
    refine (Pl.normal_no F A B C _ HV.out).mono ?_
    rintro e w1 ⟨rfl, g1⟩
    have B1 := Lib.hid ((b0.trans (g1.mono (by simp))).alloc (Nat.le_trans b0.size g1.size) (.cells #[.int .i64 0, .int .i64 0, .int .i64 0, .int .i64 0] 27))
    clear b0 r0 g1 hE0 p0 p1 p2 p3
    go_wp2_with fail
    exact bodyPost_ret (v := .tuple #[.int .i64 0, .int .i64 0, .int .i64 1]) (by simp [results, Tryd.results63, go_sem]) rfl ⟨rfl, B1.out⟩
  | true =>
    obtain ⟨f, rfl, hV⟩ := Pl.vb_to hv
    cases hr : Ck.Cal.rng t with
    | false =>
      have HF : Hid (fam (f : Int) A B C t = (0, 0, 1)) := Lib.hid (by unfold fam; rw [if_neg (by rw [hr]; simp)])
      rw [HF.out]
      have HR := Lib.hid hr; clear hr hv
      go_enter Tryd.func63, Tryd.ntmps63
      obtain ⟨p0, p1, p2, p3⟩ := row4 r0
      go_wp2_with fail
      refine (Pl.normal_yes f A B C _ hV).mono ?_
      rintro e w1 ⟨rfl, g1⟩
      generalize Pl.Ico.nf f A B C = nf
      generalize Pl.nw f A B C 0 = n0
      generalize Pl.nw f A B C 1 = n1
      generalize Pl.nw f A B C 2 = n2
      have B1 := Lib.hid ((b0.trans (g1.mono (by simp))).alloc (Nat.le_trans b0.size g1.size) (.cells #[.int .i64 (nf : Int), .int .i64 n0, .int .i64 n1, .int .i64 n2] 27))
      clear b0 r0 g1 hE0 p0 p1 p2 p3 hV
      go_wp2_with fail
      refine (Ck.date_no t _ HR.out).mono ?_
      rintro e w2 ⟨rfl, g2⟩
      have B2 := Lib.hid ((B1.out.trans (g2.mono B1.out.size)).alloc (Nat.le_trans B1.out.size g2.size) (.cells #[.int .i64 0, .int .i64 0, .int .i64 0, .int .i64 0, .int .i64 0] 113))
      clear g2 B1
      go_wp2_with fail
      exact bodyPost_ret (v := .tuple #[.int .i64 0, .int .i64 0, .int .i64 1]) (by simp [results, Tryd.results63, go_sem]) rfl ⟨rfl, B2.out⟩
    | true =>
      have hr' : 0 ≤ t ∧ t ≤ 52595999 := by unfold Ck.Cal.rng at hr; simpa using hr
      obtain ⟨y, m, d, hh, i, hc, hn, -⟩ := Ck.Cal.num_of t hr'.1 hr'.2
      obtain ⟨nf, hnf⟩ : ∃ q, Pl.Ico.nf f A B C = q := ⟨_, rfl⟩
      have HF : Hid (fam (f : Int) A B C t = ((nf : Int), m, 0)) := Lib.hid (by unfold fam; rw [if_pos ⟨hv, hr⟩, mth_eq hc hn, ← hnf]; simp)
      rw [HF.out]
      have HNF := Lib.hid hnf
      clear hr hv hr' hnf
      go_enter Tryd.func63, Tryd.ntmps63
      obtain ⟨p0, p1, p2, p3⟩ := row4 r0
      go_wp2_with fail
      refine (Pl.normal_yes f A B C _ hV).mono ?_
      rintro e w1 ⟨rfl, g1⟩
      rw [HNF.out]
      generalize Pl.nw f A B C 0 = n0
      generalize Pl.nw f A B C 1 = n1
      generalize Pl.nw f A B C 2 = n2
      have ba := (Below.refl w1.heap.size w1).alloc (Nat.le_refl _) (.cells #[.int .i64 (nf : Int), .int .i64 n0, .int .i64 n1, .int .i64 n2] 27)
      have B1 := Lib.hid ((b0.trans (g1.mono (by simp))).trans (ba.mono (Nat.le_trans b0.size g1.size)))
      have T1 := (hE0.under g1).clk.under ba
      have R1 := Lib.hid (Row.new w1 #[.int .i64 (nf : Int), .int .i64 n0, .int .i64 n1, .int .i64 n2] 27)
      have HD := Lib.hid (Ck.date_yes t y m d hh i _ T1 hn hc)
      clear b0 r0 g1 hE0 p0 p1 p2 p3 hV ba T1 hc hn
      go_wp2_with fail
      refine HD.out.mono ?_
      rintro e w2 ⟨rfl, g2⟩
      go_upto_region 7 with fail
      refine forget (fun Y => Below w.heap.size w Y ∧ Row Y w1.heap.size 27 #[.int .i64 (nf : Int), .int .i64 n0, .int .i64 n1, .int .i64 n2] ∧ Row Y w2.heap.size 113 #[.int .i64 y, .int .i64 m, .int .i64 d, .int .i64 hh, .int .i64 i]) ⟨(B1.out.trans (g2.mono B1.out.size)).alloc (Nat.le_trans B1.out.size g2.size) _, (R1.out.under g2).alloc _, Row.new _ _ _⟩ ?_
      clear g2 B1 R1 HD
      rintro Y ⟨bY, r1, r2⟩
      obtain ⟨p0, p1, p2, p3⟩ := row4 r1
      obtain ⟨q0, q1, q2, q3, q4⟩ := row5 r2
      have BY := Lib.hid bY
      clear r1 r2 bY
      go_quiet (fail)
      go_wp2_with fail
      exact bodyPost_ret (v := .tuple #[.int .i64 (nf : Int), .int .i64 m, .int .i64 0]) (by simp [results, Tryd.results63, go_sem]) rfl ⟨rfl, by first | exact BY.out | exact below_drewN BY.out _⟩
end Go.Proofs.YtlakgkoohdfiaaaDoor

namespace Go.Proofs.YtlakgkoohdfiaaaDoor
open Go.RowKit

/-- What Lookup answers. -/
noncomputable def lkpR (N : List Cm.N5) (code : Int) (fm : Int × Int × Int) : Cm.N5 × Int :=
  if Cm.vldN N = 0 then if fm.2.2 = 0 then ((Cm.fndN N (code, fm.1, fm.2.1)).getD (0, 0, 0, 0, 0), if (Cm.fndN N (code, fm.1, fm.2.1)).isSome then 0 else 9) else ((0, 0, 0, 0, 0), fm.2.2) else ((0, 0, 0, 0, 0), Cm.vldN N)
theorem set5_row {w : World} {g : Nat} {t : TypeId} {y0 y1 y2 y3 y4 : Value} (u0 u1 u2 u3 u4 : Value) (h : Row w g t #[y0, y1, y2, y3, y4]) :
    Row (((((w.setCell ⟨g, 0, none⟩ u0).setCell ⟨g, 1, none⟩ u1).setCell ⟨g, 2, none⟩ u2).setCell ⟨g, 3, none⟩ u3).setCell ⟨g, 4, none⟩ u4) g t #[u0, u1, u2, u3, u4] := by
  have h0 : Row (w.setCell ⟨g, 0, none⟩ u0) g t #[u0, y1, y2, y3, y4] := h.put 0 _
  have h1 : Row ((w.setCell ⟨g, 0, none⟩ u0).setCell ⟨g, 1, none⟩ u1) g t #[u0, u1, y2, y3, y4] := h0.put 1 _
  have h2 : Row (((w.setCell ⟨g, 0, none⟩ u0).setCell ⟨g, 1, none⟩ u1).setCell ⟨g, 2, none⟩ u2) g t #[u0, u1, u2, y3, y4] := h1.put 2 _
  have h3 : Row ((((w.setCell ⟨g, 0, none⟩ u0).setCell ⟨g, 1, none⟩ u1).setCell ⟨g, 2, none⟩ u2).setCell ⟨g, 3, none⟩ u3) g t #[u0, u1, u2, u3, y4] := h2.put 3 _
  exact h3.put 4 _
theorem set1_below {w0 w : World} {B g j : Nat} {u : Value} (h : Below B w0 w) (hg : B ≤ g) : Below B w0 (w.setCell ⟨g, j, none⟩ u) :=
  ⟨h.os, h.tape, h.output, by simpa [World.setCell] using h.size, fun i hi => (Below.heap_setCell w ⟨g, j, none⟩ u i (by simp; omega)).trans (h.block i hi)⟩
/-- What is known while a normal is looked up. -/
structure Lu (W : World) (gb gp gr : Nat) (v : Value) (N : List Cm.N5) (F A B C : Int) (w : World) : Prop where
  below : Below W.heap.size W w
  cl : Row w gb 24 #[v]
  pl : Row w gp 27 #[.int .i64 F, .int .i64 A, .int .i64 B, .int .i64 C]
  res : Row w gr 50 #[.int .i64 0, .int .i64 0, .int .i64 0, .int .i64 0, .int .i64 0]
  nr : NrIn w v N
  env : Env w
  hgr : W.heap.size ≤ gr
theorem Lu.under {W w w' : World} {gb gp gr : Nat} {v : Value} {N : List Cm.N5} {F A B C : Int} (h : Lu W gb gp gr v N F A B C w) (hb : Below w.heap.size w w') : Lu W gb gp gr v N F A B C w' :=
  ⟨h.below.trans (hb.mono h.below.size), h.cl.under hb, h.pl.under hb, h.res.under hb, h.nr.under hb, h.env.under hb, h.hgr⟩
theorem Lu.fin {W w : World} {gb gp gr : Nat} {v : Value} {N : List Cm.N5} {F A B C : Int} (h : Lu W gb gp gr v N F A B C w) (u0 u1 u2 u3 u4 : Value) :
    Row (((((w.setCell ⟨gr, 0, none⟩ u0).setCell ⟨gr, 1, none⟩ u1).setCell ⟨gr, 2, none⟩ u2).setCell ⟨gr, 3, none⟩ u3).setCell ⟨gr, 4, none⟩ u4) gr 50 #[u0, u1, u2, u3, u4] ∧ Below W.heap.size W (((((w.setCell ⟨gr, 0, none⟩ u0).setCell ⟨gr, 1, none⟩ u1).setCell ⟨gr, 2, none⟩ u2).setCell ⟨gr, 3, none⟩ u3).setCell ⟨gr, 4, none⟩ u4) :=
  ⟨set5_row _ _ _ _ _ h.res, set1_below (set1_below (set1_below (set1_below (set1_below h.below h.hgr) h.hgr) h.hgr) h.hgr) h.hgr⟩
set_option maxRecDepth 100000 in
set_option maxHeartbeats 4000000 in
theorem lookup_any (v : Value) (N : List Cm.N5) (code F A B C t : Int) (w : World) (hN : NrIn w v N) (hE : Env w) :
    Calls Tryd.prog 26 #[clV v, .int .i64 code, .agg #[.int .i64 F, .int .i64 A, .int .i64 B, .int .i64 C], .int .i64 t] w fun e w' => e = .returned (.tuple #[nV (lkpR N code (fam F A B C t)).1, .int .i64 (lkpR N code (fam F A B C t)).2]) ∧ Below w.heap.size w w' := by
  obtain ⟨r, hr⟩ : ∃ r, lkpR N code (fam F A B C t) = r := ⟨_, rfl⟩
  have HR := Lib.hid hr
  rw [hr]
  clear hr
  have I0 : Lu w w.heap.size (w.heap.size + 1) (w.heap.size + 1 + 1) v N F A B C (((w.alloc (.cells #[v] 24)).alloc (.cells #[.int .i64 F, .int .i64 A, .int .i64 B, .int .i64 C] 27)).alloc (.cells #[.int .i64 0, .int .i64 0, .int .i64 0, .int .i64 0, .int .i64 0] 50)) := by
    have b1 := (Below.refl w.heap.size w).alloc (Nat.le_refl _) (.cells #[v] 24)
    have b2 := b1.alloc b1.size (.cells #[.int .i64 F, .int .i64 A, .int .i64 B, .int .i64 C] 27)
    have b3 := b2.alloc b2.size (.cells #[.int .i64 0, .int .i64 0, .int .i64 0, .int .i64 0, .int .i64 0] 50)
    exact ⟨b3, ((Row.new _ _ _).alloc _).alloc _, (Row.newAt (by simp)).alloc _, Row.newAt (by simp), hN.under b3, hE.under b3, by omega⟩
  obtain ⟨V, cap, rfl, h1, h2, -⟩ := id hN
  clear hN hE
  go_enter Tryd.func26, Tryd.ntmps26
  go_upto_region 1 with fail
  refine forget (Lu w w.heap.size (w.heap.size + 1) (w.heap.size + 1 + 1) (.slice V N.length cap) N F A B C) I0 ?_
  clear I0
  obtain ⟨gb, hgb⟩ : ∃ g, w.heap.size = g := ⟨_, rfl⟩
  obtain ⟨gp, hgp⟩ : ∃ g, w.heap.size + 1 = g := ⟨_, rfl⟩
  obtain ⟨gr, hgr⟩ : ∃ g, w.heap.size + 1 + 1 = g := ⟨_, rfl⟩
  rw [hgr, hgp]
  intro Y hI
  have HI : Hid (Lu w gb gp gr (.slice V N.length cap) N F A B C Y) := Lib.hid (by rw [← hgb]; exact hI)
  rw [hgb]
  clear hI hgp hgr hgb
  have q0 := (HI.out.cl.cell 0).trans rfl
  have HV := Lib.hid (validateN_any _ N Y HI.out.nr HI.out.env.elt)
  obtain ⟨z, hz⟩ : ∃ z, Cm.vldN N = z := ⟨_, rfl⟩
  have HZ := Lib.hid hz
  rw [hz] at HV
  clear hz
  go_wp2_with fail
  refine HV.out.mono ?_
  rintro e w1 ⟨rfl, g1⟩
  have I1 := Lib.hid (HI.out.under g1)
  clear g1 HI HV q0
  by_cases h0 : z = 0
  · subst h0
    go_upto_region 4 with fail
    have HF := Lib.hid (fam_any F A B C t w1 I1.out.env)
    obtain ⟨p0, p1, p2, p3⟩ := row4 I1.out.pl
    generalize hfm : fam F A B C t = fm at *
    obtain ⟨f, mo, er⟩ := fm
    go_wp2_with fail
    refine HF.out.mono ?_
    rintro e w2 ⟨rfl, g2⟩
    have I2 := Lib.hid (I1.out.under g2)
    clear g2 I1 HF p0 p1 p2 p3
    by_cases he : er = 0
    · subst he
      have HRz : Hid (r = ((Cm.fndN N (code, f, mo)).getD (0, 0, 0, 0, 0), if (Cm.fndN N (code, f, mo)).isSome then 0 else 9)) := Lib.hid (by rw [← HR.out]; unfold lkpR; rw [HZ.out, if_pos rfl]; rfl)
      obtain ⟨hlen, -, hasc⟩ := Cm.vldN_ok HZ.out
      have HA := Lib.hid hasc
      have HS := Lib.hid (search_any _ N (code, f, mo, 0, 0) w2 I2.out.nr hasc hlen)
      have q0 := (I2.out.cl.cell 0).trans rfl
      clear hasc
      go_wp2_with fail
      refine HS.out.mono ?_
      rintro e w3 ⟨g3, hs⟩
      have I3 := Lib.hid (I2.out.under g3)
      clear g3 I2 HS q0
      rcases hs with ⟨i, hi, hk, rfl⟩ | ⟨hno, i, rfl⟩
      · have HRy : Hid (r = (N[i], 0)) := Lib.hid (by rw [HRz.out, show Cm.fndN N (code, f, mo) = some N[i] from Cm.fndN_at HA.out hi hk]; rfl)
        obtain ⟨g, off, rfl, hgl, a0, a1, a2, a3, a4⟩ := I3.out.nr.at hi
        have k1 : (0 : Int) ≤ (i : Int) := by omega
        have k2 : (i : Int) < (N.length : Int) := by omega
        clear hk
        generalize N[i] = n at *
        obtain ⟨n0, n1, n2, n3, n4⟩ := n
        simp only at a0 a1 a2 a3 a4
        have q0 := (I3.out.cl.cell 0).trans rfl
        have f0 := I3.out.res.thaw 0
        have f1 := I3.out.res.thaw 1
        have f2 := I3.out.res.thaw 2
        have f3 := I3.out.res.thaw 3
        have f4 := I3.out.res.thaw 4
        obtain ⟨y0, y1, y2, y3, y4⟩ := row5 I3.out.res
        have HX := Lib.hid (I3.out.fin (.int .i64 n0) (.int .i64 n1) (.int .i64 n2) (.int .i64 n3) (.int .i64 n4))
        go_wp2_with fail
        exact bodyPost_ret (v := .tuple #[.agg #[.int .i64 n0, .int .i64 n1, .int .i64 n2, .int .i64 n3, .int .i64 n4], .int .i64 0]) (by obtain ⟨z0, z1, z2, z3, z4⟩ := row5 HX.out.1; simp [results, Tryd.results26, z0, z1, z2, z3, z4, go_sem]) rfl ⟨by rw [HRy.out], HX.out.2⟩
      · have HRy : Hid (r = ((0, 0, 0, 0, 0), 9)) := Lib.hid (by rw [HRz.out, show Cm.fndN N (code, f, mo) = none from Cm.fndN_none hno]; rfl)
        have f0 := I3.out.res.thaw 0
        have f1 := I3.out.res.thaw 1
        have f2 := I3.out.res.thaw 2
        have f3 := I3.out.res.thaw 3
        have f4 := I3.out.res.thaw 4
        obtain ⟨y0, y1, y2, y3, y4⟩ := row5 I3.out.res
        have HX := Lib.hid (I3.out.fin (.int .i64 0) (.int .i64 0) (.int .i64 0) (.int .i64 0) (.int .i64 0))
        clear hno
        go_wp2_with fail
        exact bodyPost_ret (v := .tuple #[.agg #[.int .i64 0, .int .i64 0, .int .i64 0, .int .i64 0, .int .i64 0], .int .i64 9]) (by obtain ⟨z0, z1, z2, z3, z4⟩ := row5 HX.out.1; simp [results, Tryd.results26, z0, z1, z2, z3, z4, go_sem]) rfl ⟨by rw [HRy.out], HX.out.2⟩
    · have k0 : (er != 0) = true := by rw [bne_iff_ne]; exact he
      have HRz : Hid (r = ((0, 0, 0, 0, 0), er)) := Lib.hid (by rw [← HR.out]; unfold lkpR; rw [HZ.out, if_pos rfl, if_neg he])
      have f0 := I2.out.res.thaw 0
      have f1 := I2.out.res.thaw 1
      have f2 := I2.out.res.thaw 2
      have f3 := I2.out.res.thaw 3
      have f4 := I2.out.res.thaw 4
      obtain ⟨q0, q1, q2, q3, q4⟩ := row5 I2.out.res
      have HX := Lib.hid (I2.out.fin (.int .i64 0) (.int .i64 0) (.int .i64 0) (.int .i64 0) (.int .i64 0))
      clear he
      go_wp2_with fail
      exact bodyPost_ret (v := .tuple #[.agg #[.int .i64 0, .int .i64 0, .int .i64 0, .int .i64 0, .int .i64 0], .int .i64 er]) (by obtain ⟨z0, z1, z2, z3, z4⟩ := row5 HX.out.1; simp [results, Tryd.results26, z0, z1, z2, z3, z4, go_sem]) rfl ⟨by rw [HRz.out], HX.out.2⟩
  · have k0 : (z != 0) = true := by rw [bne_iff_ne]; exact h0
    have HRz : Hid (r = ((0, 0, 0, 0, 0), z)) := Lib.hid (by rw [← HR.out]; unfold lkpR; rw [HZ.out, if_neg h0])
    have f0 := I1.out.res.thaw 0
    have f1 := I1.out.res.thaw 1
    have f2 := I1.out.res.thaw 2
    have f3 := I1.out.res.thaw 3
    have f4 := I1.out.res.thaw 4
    obtain ⟨q0, q1, q2, q3, q4⟩ := row5 I1.out.res
    have HX := Lib.hid (I1.out.fin (.int .i64 0) (.int .i64 0) (.int .i64 0) (.int .i64 0) (.int .i64 0))
    clear h0
    go_wp2_with fail
    exact bodyPost_ret (v := .tuple #[.agg #[.int .i64 0, .int .i64 0, .int .i64 0, .int .i64 0, .int .i64 0], .int .i64 z]) (by obtain ⟨z0, z1, z2, z3, z4⟩ := row5 HX.out.1; simp [results, Tryd.results26, z0, z1, z2, z3, z4, go_sem]) rfl ⟨by rw [HRz.out], HX.out.2⟩
end Go.Proofs.YtlakgkoohdfiaaaDoor

namespace Go.Proofs.YtlakgkoohdfiaaaDoor
open Go.RowKit

/-- The first error of a climate and a report. -/
noncomputable def valS (N : List Cm.N5) (L : List El.Elt.R) (fm : Int × Int × Int) : Int := if Cm.vldN N = 0 then if El.Elt.vld L = 0 then fm.2.2 else El.Elt.vld L else Cm.vldN N
theorem fam_err (F A B C t : Int) : (fam F A B C t).2.2 = 0 ∨ (fam F A B C t).2.2 = 1 := by
  unfold fam; split
  · exact .inl rfl
  · exact .inr rfl
/-- A value is more than the spread away from the mean. -/
def farN (n : Cm.N5) (x : Int) : Bool := decide (x < n.2.2.2.1 - n.2.2.2.2) || decide (n.2.2.2.1 + n.2.2.2.2 < x)
theorem lkpR_yes {N : List Cm.N5} {c f mo : Int} (h : Cm.vldN N = 0) : lkpR N c (f, mo, 0) = ((Cm.fndN N (c, f, mo)).getD (0, 0, 0, 0, 0), if (Cm.fndN N (c, f, mo)).isSome then 0 else 9) := by unfold lkpR; rw [if_pos h, if_pos rfl]
theorem lkpR_er {N : List Cm.N5} {c : Int} {fm : Int × Int × Int} (h : Cm.vldN N = 0) (h2 : fm.2.2 = 0 ∨ fm.2.2 = 1) : (lkpR N c fm).2 = 1 ↔ fm.2.2 = 1 := by
  unfold lkpR
  rw [if_pos h]
  rcases h2 with q | q
  · rw [if_pos q, q]
    dsimp only
    split <;> omega
  · rw [if_neg (by omega), q]
/-- What is known in the functions of season. -/
structure Sv (W : World) (gb gp : Nat) (v : Value) (N : List Cm.N5) (k : Int) (nm : ByteArray) (t F A B C : Int) (u : Value) (L : List El.Elt.R) (w : World) : Prop where
  below : Below W.heap.size W w
  cl : Row w gb 24 #[v]
  rp : Row w gp 38 (repC k nm t F A B C u)
  nr : NrIn w v N
  rd : El.RdIn w u L
  env : Env w
theorem Sv.under {W w w' : World} {gb gp : Nat} {v u : Value} {N : List Cm.N5} {k t F A B C : Int} {nm : ByteArray} {L : List El.Elt.R} (h : Sv W gb gp v N k nm t F A B C u L w) (hb : Below w.heap.size w w') : Sv W gb gp v N k nm t F A B C u L w' :=
  ⟨h.below.trans (hb.mono h.below.size), h.cl.under hb, h.rp.under hb, h.nr.under hb, h.rd.under hb, h.env.under hb⟩
theorem Sv.start (w : World) (v u : Value) (N : List Cm.N5) (k t F A B C : Int) (nm : ByteArray) (L : List El.Elt.R) (hN : NrIn w v N) (hL : El.RdIn w u L) (hE : Env w) :
    Sv w w.heap.size (w.heap.size + 1) v N k nm t F A B C u L ((w.alloc (.cells #[v] 24)).alloc (.cells (repC k nm t F A B C u) 38)) := by
  have b1 := (Below.refl w.heap.size w).alloc (Nat.le_refl _) (.cells #[v] 24)
  have b2 := b1.alloc b1.size (.cells (repC k nm t F A B C u) 38)
  exact ⟨b2, (Row.new _ _ _).alloc _, Row.newAt (by simp), hN.under b2, hL.under b2, hE.under b2⟩
set_option maxRecDepth 100000 in
set_option maxHeartbeats 4000000 in
theorem validateS_any (v : Value) (N : List Cm.N5) (k : Int) (nm : ByteArray) (t F A B C : Int) (u : Value) (L : List El.Elt.R) (w : World) (hN : NrIn w v N) (hL : El.RdIn w u L) (hE : Env w) :
    Calls Tryd.prog 72 #[clV v, repV k nm t F A B C u] w fun e w' => e = .returned (.int .i64 (valS N L (fam F A B C t))) ∧ Below w.heap.size w w' := by
  have I0 : Hid (Sv w w.heap.size (w.heap.size + 1) v N k nm t F A B C u L ((w.alloc (.cells #[v] 24)).alloc (.cells (repC k nm t F A B C u) 38))) := Lib.hid (Sv.start w v u N k t F A B C nm L hN hL hE)
  obtain ⟨s, hs⟩ : ∃ s, valS N L (fam F A B C t) = s := ⟨_, rfl⟩
  have HS := Lib.hid hs
  have HFe := Lib.hid (fam_err F A B C t)
  rw [hs]
  obtain ⟨V, cap, rfl, -⟩ := id hN
  obtain ⟨U, cu, rfl, -⟩ := id hL
  clear hN hL hE hs
  go_enter Tryd.func72, Tryd.ntmps72
  go_upto_region 1 with fail
  refine forget (fun Y => Hid (Sv w w.heap.size (w.heap.size + 1) (.slice V N.length cap) N k nm t F A B C (.slice U L.length cu) L Y)) I0 ?_
  clear I0
  obtain ⟨gp, hgp⟩ : ∃ g, w.heap.size + 1 = g := ⟨_, rfl⟩
  obtain ⟨gb, hgb⟩ : ∃ g, w.heap.size = g := ⟨_, rfl⟩
  rw [hgp, hgb]
  clear hgp hgb
  rintro Y HI
  have q0 := (HI.out.cl.cell 0).trans rfl
  have HV := Lib.hid (validateN_any _ N Y HI.out.nr HI.out.env.elt)
  obtain ⟨z, hz⟩ : ∃ z, Cm.vldN N = z := ⟨_, rfl⟩
  have HZ := Lib.hid hz
  rw [hz] at HV
  clear hz
  go_wp2_with fail
  refine HV.out.mono ?_
  rintro e w1 ⟨rfl, g1⟩
  have I1 := Lib.hid (HI.out.under g1)
  clear g1 HI HV q0
  by_cases h0 : z = 0
  · subst h0
    obtain ⟨q0, q1, q2, q3, q4, q5, q6, q7⟩ := row8 I1.out.rp
    have HV := Lib.hid (El.validate_any _ L w1 I1.out.rd I1.out.env.elt)
    obtain ⟨y, hy⟩ : ∃ z, El.Elt.vld L = z := ⟨_, rfl⟩
    have HY := Lib.hid hy
    rw [hy] at HV
    clear hy
    go_wp2_with fail
    refine HV.out.mono ?_
    rintro e w2 ⟨rfl, g2⟩
    have I2 := Lib.hid (I1.out.under g2)
    clear g2 I1 HV q0 q1 q2 q3 q4 q5 q6 q7
    by_cases h1 : y = 0
    · subst h1
      obtain ⟨q0, q1, q2, q3, q4, q5, q6, q7⟩ := row8 I2.out.rp
      have q8 := (I2.out.cl.cell 0).trans rfl
      have HK := Lib.hid (lookup_any _ N 1 F A B C t w2 I2.out.nr I2.out.env)
      have HSf : Hid (s = (fam F A B C t).2.2) := Lib.hid (by rw [← HS.out]; unfold valS; rw [if_pos HZ.out, if_pos HY.out])
      have HL1 := Lib.hid (lkpR_er (c := 1) HZ.out HFe.out)
      generalize fam F A B C t = fm at *
      go_wp2_with fail
      refine HK.out.mono ?_
      rintro e w3 ⟨rfl, g3⟩
      have I3 := Lib.hid (I2.out.under g3)
      generalize (lkpR N 1 fm).1 = n at *
      generalize (lkpR N 1 fm).2 = er at *
      have b4 := I3.out.below.alloc I3.out.below.size (.cells #[.int .i64 n.1, .int .i64 n.2.1, .int .i64 n.2.2.1, .int .i64 n.2.2.2.1, .int .i64 n.2.2.2.2] 50)
      have B4 := Lib.hid b4
      clear g3 I2 HK q0 q1 q2 q3 q4 q5 q6 q7 q8 b4 HS HZ HY
      by_cases h2 : er = 1
      · subst h2
        have HR : Hid (s = 1) := Lib.hid (by rw [HSf.out]; exact HL1.out.1 rfl)
        go_wp2_with fail
        go_ret
        exact ⟨ret_i64 HR.out.symm, B4.out⟩
      · have k2 : (er == 1) = false := beq_eq_false_iff_ne.2 h2
        have HR : Hid (s = 0) := Lib.hid (by
          rw [HSf.out]
          rcases HFe.out with q | q
          · exact q
          · exact absurd (HL1.out.2 q) h2)
        clear h2
        go_wp2_with fail
        go_ret
        exact ⟨ret_i64 HR.out.symm, B4.out⟩
    · have k1 : (y != 0) = true := by rw [bne_iff_ne]; exact h1
      have HR : Hid (s = y) := Lib.hid (by rw [← HS.out]; unfold valS; rw [if_pos HZ.out, if_neg (by rw [HY.out]; exact h1), HY.out])
      clear h1
      go_wp2_with fail
      go_ret
      exact ⟨ret_i64 HR.out.symm, I2.out.below⟩
  · have k0 : (z != 0) = true := by rw [bne_iff_ne]; exact h0
    have HR : Hid (s = z) := Lib.hid (by rw [← HS.out]; unfold valS; rw [if_neg (by rw [HZ.out]; exact h0), HZ.out])
    clear h0
    go_wp2_with fail
    go_ret
    exact ⟨ret_i64 HR.out.symm, I1.out.below⟩
set_option maxHeartbeats 1000000 in
theorem isFar_any (x : Int) (n : Cm.N5) (w : World) (h1 : -20000 ≤ n.2.2.2.1 ∧ n.2.2.2.1 ≤ 20000) (h2 : 0 ≤ n.2.2.2.2 ∧ n.2.2.2.2 ≤ 20000) :
    Calls Tryd.prog 73 #[.int .i64 x, nV n] w fun e w' => e = .returned (.bool (farN n x)) ∧ Below w.heap.size w w' := by
  obtain ⟨c, f, mo, a, s⟩ := n
  dsimp only at h1 h2
  obtain ⟨a1, a2⟩ := h1
  obtain ⟨s1, s2⟩ := h2
  have y1 : IntKind.i64.wrap (a - s) = a - s := IntWalk.i64_in _ (by omega)
  have y2 : IntKind.i64.wrap (a + s) = a + s := IntWalk.i64_in _ (by omega)
  have b1 := (Below.refl w.heap.size w).alloc (Nat.le_refl _) (.cells #[.int .i64 c, .int .i64 f, .int .i64 mo, .int .i64 a, .int .i64 s] 50)
  have B1 := Lib.hid b1
  have HF : Hid (farN (c, f, mo, a, s) x = (decide (x < a - s) || decide (a + s < x))) := Lib.hid rfl
  obtain ⟨r, hr⟩ : ∃ r, farN (c, f, mo, a, s) x = r := ⟨_, rfl⟩
  rw [hr] at HF ⊢
  clear hr b1
  by_cases h3 : x < a - s
  · have HR : Hid (r = true) := Lib.hid (by rw [HF.out, decide_eq_true h3]; rfl)
    clear HF
    go_enter Tryd.func73, Tryd.ntmps73
    go_wp2_with fail
    go_ret
    exact ⟨ret_bool HR.out.symm, B1.out⟩
  · by_cases h4 : a + s < x
    · have HR : Hid (r = true) := Lib.hid (by rw [HF.out, decide_eq_true h4]; simp)
      clear HF
      go_enter Tryd.func73, Tryd.ntmps73
      go_wp2_with fail
      go_ret
      exact ⟨ret_bool HR.out.symm, B1.out⟩
    · have HR : Hid (r = false) := Lib.hid (by rw [HF.out, decide_eq_false h3, decide_eq_false h4]; rfl)
      clear HF
      go_enter Tryd.func73, Tryd.ntmps73
      go_wp2_with fail
      go_ret
      exact ⟨ret_bool HR.out.symm, B1.out⟩
end Go.Proofs.YtlakgkoohdfiaaaDoor
