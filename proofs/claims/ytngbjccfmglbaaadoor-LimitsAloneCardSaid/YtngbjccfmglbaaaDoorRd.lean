/- Lists of readings and of numbers as the program holds them; membership in a list of numbers. -/
import Derived.Test.YtngbjccfmglbaaaDoorRSome
import Derived.Lib.Hide
import Derived.OwnWalk
namespace Go.Proofs.YtngbjccfmglbaaaDoor
open Go.RowKit

theorem own_ne {w : World} {base size n g : Nat} {e t : TypeId} {v : Value} {xs : List Value} {cs : Array Value} (h : w.ownsRow base e size v n xs) (hr : Row w g t cs) (hne : e ≠ t) : some g ≠ v.ownBlock := by
  rcases h.2 with ⟨rfl, _⟩ | ⟨g', cap, cur, rfl, _, hh, _⟩
  · simp [Value.ownBlock]
  · intro he
    have : g = g' := by simpa [Value.ownBlock] using he
    subst this
    unfold Row at hr
    rw [hr] at hh
    injection hh with hh
    injection hh with _ ht
    exact hne ht.symm
theorem own_under {w w' : World} {base size n : Nat} {e : TypeId} {v : Value} {xs : List Value} (h : w.ownsRow base e size v n xs) (hb : Below w.heap.size w w') : w'.ownsRow base e size v n xs := by
  refine h.kept (row := none) (grown_below hb) ?_
  cases hv : v.ownBlock
  · exact .inl rfl
  · exact .inr (by simp)
theorem below_own {a b c : World} {B size n : Nat} {e : TypeId} {v : Value} {xs : List Value} (h : Below B a b) (hB : B ≤ b.heap.size) (ho : b.ownsRow B e size v n xs) (k : b.grownBy c v.ownBlock) : Below B a c :=
  ⟨k.os.trans h.os, k.tape.trans h.tape, k.output.trans h.output, Nat.le_trans h.size k.size, fun i hi => (k.block i (by omega) (fun e => by have := (ho.lt i e.symm).1; omega)).trans (h.block i hi)⟩
def encR (x : Elt.R) : List Value := [.int .i64 x.1, .int .i64 x.2]
/-- The cells of readings. -/
def rdc (L : List Elt.R) : List Value := L.flatMap encR
theorem rdc_snoc (L : List Elt.R) (x : Elt.R) : rdc (L ++ [x]) = rdc L ++ [.int .i64 x.1, .int .i64 x.2] := by simp [rdc, encR]
theorem rdc_at : ∀ (L : List Elt.R) (i : Nat) (h : i < L.length), (rdc L)[i * 2]? = some (.int .i64 (L[i]).1) ∧ (rdc L)[i * 2 + 1]? = some (.int .i64 (L[i]).2)
  | x :: r, 0, _ => ⟨rfl, rfl⟩
  | x :: r, i + 1, h => by
    have := rdc_at r i (by simpa using h)
    have e : rdc (x :: r) = .int .i64 x.1 :: .int .i64 x.2 :: rdc r := rfl
    rw [e, show (i + 1) * 2 = i * 2 + 1 + 1 by omega]
    simpa using this
/-- A list of readings as the program holds it. -/
def RdIn (w : World) (v : Value) (L : List Elt.R) : Prop := ∃ A cap, v = .slice A L.length cap ∧ L.length ≤ cap ∧ cap ≤ 9223372036854775807 ∧ ∀ i (h : i < L.length), ∃ g off, A = some ⟨g, off, none⟩ ∧ g < w.heap.size ∧ w.cell? ⟨g, off + i * 2, none⟩ = some (.int .i64 (L[i]).1) ∧ w.cell? ⟨g, off + i * 2 + 1, none⟩ = some (.int .i64 (L[i]).2)
theorem RdIn.under {w w' : World} {v : Value} {L : List Elt.R} (h : RdIn w v L) (hb : Below w.heap.size w w') : RdIn w' v L := by
  obtain ⟨A, cap, h1, h2, h3, h4⟩ := h
  refine ⟨A, cap, h1, h2, h3, fun i hi => ?_⟩
  obtain ⟨g, off, a, b, c, d⟩ := h4 i hi
  exact ⟨g, off, a, Nat.lt_of_lt_of_le b hb.size, (hb.cell (p := ⟨g, off + i * 2, none⟩) b).trans c, (hb.cell (p := ⟨g, off + i * 2 + 1, none⟩) b).trans d⟩
theorem RdIn.nil (w : World) : RdIn w (.slice none 0 0) [] := ⟨none, 0, rfl, Nat.le_refl _, by omega, fun i hi => by simp at hi⟩
theorem RdIn.own {w : World} {base : Nat} {v : Value} {L : List Elt.R} (h : w.ownsRow base 30 2 v L.length (rdc L)) : RdIn w v L := by
  have h' := h
  rcases h.2 with ⟨rfl, h0⟩ | ⟨g, cap, cur, rfl, _, hh, hle, hmax, _, _⟩
  · have := List.eq_nil_of_length_eq_zero h0
    subst this
    exact RdIn.nil w
  · refine ⟨some ⟨g, 0, none⟩, cap, rfl, hle, by unfold maxLen at hmax; omega, fun i hi => ⟨g, 0, rfl, (Array.getElem?_eq_some_iff.1 hh).1, ?_⟩⟩
    rw [Nat.zero_add, h'.cellAt (i * 2) (by omega), h'.cellAt (i * 2 + 1) (by omega)]
    exact rdc_at L i hi
/-- A list that is not empty lies in one block. -/
theorem RdIn.one {w : World} {v : Value} {L : List Elt.R} (h : RdIn w v L) (hp : 0 < L.length) : ∃ g off cap, v = .slice (some ⟨g, off, none⟩) L.length cap ∧ L.length ≤ cap ∧ cap ≤ 9223372036854775807 ∧ g < w.heap.size ∧ ∀ i (h : i < L.length), w.cell? ⟨g, off + i * 2, none⟩ = some (.int .i64 (L[i]).1) ∧ w.cell? ⟨g, off + i * 2 + 1, none⟩ = some (.int .i64 (L[i]).2) := by
  obtain ⟨A, cap, rfl, h2, h3, h4⟩ := h
  obtain ⟨g, off, rfl, hg, -, -⟩ := h4 0 hp
  refine ⟨g, off, cap, rfl, h2, h3, hg, fun i hi => ?_⟩
  obtain ⟨g', off', e, -, c, d⟩ := h4 i hi
  injection e with e
  injection e with e1 e2
  subst e1; subst e2
  exact ⟨c, d⟩
/-- A list of numbers as the program holds it. -/
def NmIn (w : World) (v : Value) (C : List Int) : Prop := ∃ A cap, v = .slice A C.length cap ∧ C.length ≤ cap ∧ cap ≤ 9223372036854775807 ∧ ∀ i (h : i < C.length), ∃ g off, A = some ⟨g, off, none⟩ ∧ g < w.heap.size ∧ w.cell? ⟨g, off + i, none⟩ = some (.int .i64 C[i])
theorem NmIn.under {w w' : World} {v : Value} {C : List Int} (h : NmIn w v C) (hb : Below w.heap.size w w') : NmIn w' v C := by
  obtain ⟨A, cap, h1, h2, h3, h4⟩ := h
  refine ⟨A, cap, h1, h2, h3, fun i hi => ?_⟩
  obtain ⟨g, off, a, b, c⟩ := h4 i hi
  exact ⟨g, off, a, Nat.lt_of_lt_of_le b hb.size, (hb.cell (p := ⟨g, off + i, none⟩) b).trans c⟩
theorem NmIn.of {w : World} {v : Value} (h : ListIn w v) : ∃ C, NmIn w v C := by
  rcases h with rfl | ⟨a, n, c, rfl, h1, h2, h3⟩
  · exact ⟨[], none, 0, rfl, Nat.le_refl _, by omega, fun i hi => by simp at hi⟩
  · have hx : ∀ i, ∃ x : Int, i < n → ∃ bk off, a = ⟨bk, off, none⟩ ∧ bk < w.heap.size ∧ w.cell? ⟨bk, off + i, none⟩ = some (.int .i64 x) := fun i => by
      by_cases hi : i < n
      · obtain ⟨bk, off, x, e, hl, hc, -⟩ := h3 i hi
        exact ⟨x, fun _ => ⟨bk, off, by injection e, hl, hc⟩⟩
      · exact ⟨0, fun h => absurd h hi⟩
    have hch : ∃ f : Nat → Int, ∀ i, i < n → ∃ bk off, a = ⟨bk, off, none⟩ ∧ bk < w.heap.size ∧ w.cell? ⟨bk, off + i, none⟩ = some (.int .i64 (f i)) := ⟨fun i => Classical.choose (hx i), fun i => Classical.choose_spec (hx i)⟩
    obtain ⟨f, hf⟩ := hch
    refine ⟨(List.range n).map f, some a, c, by simp, by simpa using h1, h2, fun i hi => ?_⟩
    have hi' : i < n := by simpa using hi
    obtain ⟨bk, off, e, hl, hc⟩ := hf i hi'
    exact ⟨bk, off, by rw [e], hl, by simpa using hc⟩
theorem NmIn.one {w : World} {v : Value} {C : List Int} (h : NmIn w v C) (hp : 0 < C.length) : ∃ g off cap, v = .slice (some ⟨g, off, none⟩) C.length cap ∧ C.length ≤ cap ∧ cap ≤ 9223372036854775807 ∧ g < w.heap.size ∧ ∀ i (h : i < C.length), w.cell? ⟨g, off + i, none⟩ = some (.int .i64 C[i]) := by
  obtain ⟨A, cap, rfl, h2, h3, h4⟩ := h
  obtain ⟨g, off, rfl, hg, -⟩ := h4 0 hp
  refine ⟨g, off, cap, rfl, h2, h3, hg, fun i hi => ?_⟩
  obtain ⟨g', off', e, -, c⟩ := h4 i hi
  injection e with e
  injection e with e1 e2
  subst e1; subst e2
  exact c
set_option maxHeartbeats 1000000 in
theorem in_any (v : Value) (C : List Int) (x : Int) (w : World) (h : NmIn w v C) :
    Calls Tryd.prog 12 #[v, .int .i64 x] w fun e w' => e = .returned (.bool (C.contains x)) ∧ w = w' := by
  obtain ⟨A, cap, rfl, h1, h2, h3⟩ := h
  have H := Lib.hid h3; clear h3
  obtain ⟨cb, hcb⟩ : ∃ cb, C.contains x = cb := ⟨_, rfl⟩
  rw [hcb]
  have HB := Lib.hid hcb; clear hcb
  go_enter Tryd.func12, Tryd.ntmps12
  go_wp2_with fail
  go_loop [5] (fun t => ∃ k : Nat, k ≤ C.length ∧ t = .int .i64 k ∧ Hid (∀ j (h : j < C.length), j < k → C[j] ≠ x)) (fun t => C.length - (intOf t).toNat)
  case atStart => exact ⟨0, Nat.zero_le _, rfl, Lib.hid (fun j h h' => by omega)⟩
  case round =>
    obtain ⟨k, hk, rfl, hn⟩ := hrel
    by_cases hlt : k < C.length
    · obtain ⟨g, off, rfl, -, c0⟩ := H.out k hlt
      have k0 : (0 : Int) ≤ (k : Int) := by omega
      have k1 : (k : Int) < (C.length : Int) := by omega
      by_cases he : C[k] = x
      · have e1 : (C[k] == x) = true := beq_iff_eq.2 he
        have HC : Hid (cb = true) := Lib.hid (by rw [← HB.out, List.contains_iff_mem]; rw [← he]; exact List.getElem_mem _)
        clear he
        generalize C[k] = y at *
        go_wp2_with fail
        go_ret
        exact ⟨ret_bool HC.out.symm, rfl⟩
      · have e1 : (C[k] == x) = false := beq_eq_false_iff_ne.2 he
        have HN : Hid (∀ j (h : j < C.length), j < k + 1 → C[j] ≠ x) := Lib.hid (fun j h h' => by
          rcases Nat.lt_or_ge j k with q | q
          · exact hn.out j h q
          · obtain rfl : j = k := by omega
            exact he)
        clear he hn
        generalize C[k] = y at *
        go_wp2_with fail
        go_round
        case rel => exact ⟨k + 1, by omega, by go_num, HN⟩
        case measure => simp [intOf]; omega
    · have k1 : ¬ (k : Int) < (C.length : Int) := by omega
      have HC : Hid (cb = false) := Lib.hid (by
        rw [← HB.out]
        cases hc : C.contains x
        · rfl
        · exfalso
          obtain ⟨i, hi, e⟩ := List.getElem_of_mem (List.contains_iff_mem.1 hc)
          exact hn.out i hi (by omega) e)
      go_wp2_with fail
      go_ret
      exact ⟨ret_bool HC.out.symm, rfl⟩
end Go.Proofs.YtngbjccfmglbaaaDoor


