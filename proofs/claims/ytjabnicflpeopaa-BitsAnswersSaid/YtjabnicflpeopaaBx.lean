/- Lists of bytes and of bits in memory. -/
import Derived.Test.YtjabnicflpeopaaRow
import Derived.Test.YtjabnicflpeopaaPk
import Derived.Laws.OwnMore
namespace Go.Proofs.Ytjabnicflpeopaa
open Go.RowKit

/-- Bytes as cells. -/
def byc (L : List Nat) : List Value := L.map fun (x : Nat) => Value.int .u8 (x : Int)
theorem byc_len (L : List Nat) : (byc L).length = L.length := by simp [byc]
theorem byc_at {L : List Nat} {j : Nat} (h : j < L.length) : (byc L)[j]? = some (.int .u8 (L[j] : Int)) := by simp [byc, List.getElem?_map, List.getElem?_eq_getElem h]
theorem byc_set (L : List Nat) (j x : Nat) : byc (L.set j x) = (byc L).set j (.int .u8 (x : Int)) := by simp [byc, List.map_set]
theorem byc_one (L : List Nat) : ∀ u ∈ byc L, u.oneCell' = true := by
  intro u hu
  obtain ⟨x, -, rfl⟩ := List.mem_map.1 hu
  rfl
/-- A slice of bytes that reads as L. -/
def Bys (w : World) (A : Option Addr) (c : Nat) (L : List Nat) : Prop :=
  L.length ≤ c ∧ c ≤ 9223372036854775807 ∧ (A = none → L = [] ∧ c = 0) ∧ (∀ x ∈ L, x < 256) ∧ ∀ i (h : i < L.length), ∃ bk off, A = some ⟨bk, off, none⟩ ∧ bk < w.heap.size ∧ w.cell? ⟨bk, off + i, none⟩ = some (.int .u8 (L[i] : Int))
theorem Bys.under {w w' : World} {A : Option Addr} {c : Nat} {L : List Nat} (h : Bys w A c L) (hb : Below w.heap.size w w') : Bys w' A c L :=
  ⟨h.1, h.2.1, h.2.2.1, h.2.2.2.1, fun i hi => by
    obtain ⟨bk, off, e, hlt, hc⟩ := h.2.2.2.2 i hi
    exact ⟨bk, off, e, Nat.lt_of_lt_of_le hlt hb.size, (hb.cell (p := ⟨bk, off + i, none⟩) hlt).trans hc⟩⟩
/-- Where bytes lie that are some. -/
theorem Bys.addr {w : World} {A : Option Addr} {c : Nat} {L : List Nat} (h : Bys w A c L) (hl : 0 < L.length) : ∃ bk off, A = some ⟨bk, off, none⟩ ∧ bk < w.heap.size ∧ ∀ i (h : i < L.length), w.cell? ⟨bk, off + i, none⟩ = some (.int .u8 (L[i] : Int)) := by
  obtain ⟨bk, off, e, hlt, hc⟩ := h.2.2.2.2 0 hl
  refine ⟨bk, off, e, hlt, fun i hi => ?_⟩
  obtain ⟨bk', off', e', hlt', hc'⟩ := h.2.2.2.2 i hi
  rw [e] at e'
  injection e' with e'
  injection e' with e1 e2
  rw [e1, e2]
  exact hc'
/-- A block of bytes of one's own. -/
abbrev Own (w : World) (g : Nat) (L : List Nat) : Prop := Row w g 5 (byc L).toArray
theorem Own.bys {w : World} {g : Nat} {L : List Nat} (h : Own w g L) (hb : ∀ x ∈ L, x < 256) (hl : L.length ≤ 9223372036854775807) : Bys w (some ⟨g, 0, none⟩) L.length L :=
  ⟨Nat.le_refl _, hl, fun e => by (cases e), hb, fun i hi => ⟨g, 0, rfl, Row.lt h, by
    rw [Row.cell h]
    rw [List.getElem?_toArray, Nat.zero_add]
    exact byc_at hi⟩⟩
/-- A list of bits as a value. -/
def BtIn (w : World) (v : Value) (L : List Nat) (n : Int) : Prop := ∃ A c, v = .agg #[.slice A L.length c, .int .i64 n] ∧ Bys w A c L
theorem BtIn.under {w w' : World} {v : Value} {L : List Nat} {n : Int} (h : BtIn w v L n) (hb : Below w.heap.size w w') : BtIn w' v L n := by
  obtain ⟨A, c, e, h⟩ := h
  exact ⟨A, c, e, h.under hb⟩
theorem BtIn.byte {w : World} {v : Value} {L : List Nat} {n : Int} (h : BtIn w v L n) : ∀ x ∈ L, x < 256 := by
  obtain ⟨A, c, -, h⟩ := h
  exact h.2.2.2.1
theorem BtIn.zero (w : World) : BtIn w (.agg #[.slice none 0 0, .int .i64 0]) [] 0 := ⟨none, 0, rfl, by decide, by decide, fun _ => ⟨rfl, rfl⟩, fun x hx => by (cases hx), fun i hi => by (cases hi)⟩
/-- A store into a box of a list of bits does not meet bytes. -/
theorem Bys.far {w : World} {A B : Option Addr} {c k d : Nat} {z : Int} {L : List Nat} (h : Bys w A c L) {g j : Nat} {u : Value} (hr : Row w g 24 #[.slice B k d, .int .i64 z]) : Bys (w.setCell ⟨g, j, none⟩ u) A c L :=
  ⟨h.1, h.2.1, h.2.2.1, h.2.2.2.1, fun i hi => by
    obtain ⟨bk, off, e, hlt, hc⟩ := h.2.2.2.2 i hi
    refine ⟨bk, off, e, by simp [World.setCell]; exact hlt, ?_⟩
    have hne : bk ≠ g := fun e => by
      subst e
      rw [hr.cell] at hc
      rcases (by omega : off + i = 0 ∨ off + i = 1 ∨ 2 ≤ off + i) with q | q | q
      · rw [q] at hc; simp at hc
      · rw [q] at hc; simp at hc
      · rw [Array.getElem?_eq_none (by simpa using q)] at hc; cases hc
    have hb := Below.heap_setCell w ⟨g, j, none⟩ u bk hne
    rw [← hc]
    unfold World.cell?
    rw [show (⟨bk, off + i, none⟩ : Addr).block = bk from rfl, hb]⟩
theorem quiet_left {P : Program} {f : FuncId} {args : Array Value} {w : World} {n : Nat} {v : Value}
    (h : Calls P f args (w.drewN n) fun e w' => e = .returned v ∧ w.drewN n = w') : Calls P f args (w.drewN n) fun e w'' => e = .returned v ∧ ∃ m, w'' = w.drewN m :=
  h.mono fun _ _ ⟨he, hm⟩ => ⟨he, n, hm.symm⟩
/-- A new block of bytes. -/
theorem mk_bytes (x : Int) (k : Nat) (hk : k ≤ 1000000) (hx : x = (k : Int)) (w : World) :
    (Instr.makeSlice 22 (.int .i64 x) (.int .i64 x)).run Try.prog w = .ok (.slice (some ⟨w.heap.size, 0, none⟩) k k) (w.alloc (.cells (byc (List.replicate k 0)).toArray 5)) := by
  subst hx
  have h := run_make (P := Try.prog) w 22 5 Try.t5 (.int .u8 0) Try.underlying22 (by kernel_rfl) (by kernel_rfl) .i64 .i64 k k (by omega) (Int.le_refl _) (by show ((1 : Nat) : Int) * (k : Int) ≤ _; omega) (by omega)
  rw [h]
  have e : madeCells (Value.int .u8 0).cells ((k : Int).toNat * (Try.t5).size) = (byc (List.replicate k 0)).toArray := by
    have : (Try.t5).size = 1 := by kernel_rfl
    rw [this, Nat.mul_one, Int.toNat_natCast]
    apply Array.toList_inj.1
    rw [show (Value.int .u8 0).cells = #[Value.int .u8 0] from rfl, toList_madeCells_one]
    simp [byc]
  rw [e, Int.toNat_natCast]
end Go.Proofs.Ytjabnicflpeopaa
