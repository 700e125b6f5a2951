/- Lists of entries, of sequences, of numbers, and tables, as the program holds them. -/
import Derived.Test.YtjaopjhfjijdaaaDoorTb
import Derived.Test.YtjaopjhfjijdaaaDoorSrc
import Derived.OwnWalk
namespace Go.Proofs.YtjaopjhfjijdaaaDoor
open Go.RowKit

theorem own_ne {w : World} {base size n g : Nat} {e t : TypeId} {v : Value} {xs : List Value} {cs : Array Value} (h : w.ownsRow base e size v n xs) (hr : Row w g t cs) (hne : e ≠ t) : some g ≠ v.ownBlock := by
  rcases h.2 with ⟨rfl, _⟩ | ⟨g', cap, cur, rfl, _, hh, _⟩
  · simp [Value.ownBlock]
  · intro he
    have : g = g' := by simpa [Value.ownBlock] using he
    subst this
    unfold Row at hr
    rw [hr] at hh
    injection hh with hh
    injection hh with _ ht
    exact hne ht.symm
theorem own_under {w w' : World} {base size n : Nat} {e : TypeId} {v : Value} {xs : List Value} (h : w.ownsRow base e size v n xs) (hb : Below w.heap.size w w') : w'.ownsRow base e size v n xs := by
  refine h.kept (row := none) (grown_below hb) ?_
  cases hv : v.ownBlock
  · exact .inl rfl
  · exact .inr (by simp)
theorem below_own {a b c : World} {B size n : Nat} {e : TypeId} {v : Value} {xs : List Value} (h : Below B a b) (hB : B ≤ b.heap.size) (ho : b.ownsRow B e size v n xs) (k : b.grownBy c v.ownBlock) : Below B a c :=
  ⟨k.os.trans h.os, k.tape.trans h.tape, k.output.trans h.output, Nat.le_trans h.size k.size, fun i hi => (k.block i (by omega) (fun e => by have := (ho.lt i e.symm).1; omega)).trans (h.block i hi)⟩
/-- A list of numbers as the program holds it. -/
def NmIn (w : World) (v : Value) (C : List Int) : Prop := ∃ A cap, v = .slice A C.length cap ∧ C.length ≤ cap ∧ cap ≤ 9223372036854775807 ∧ ∀ i (h : i < C.length), ∃ g off, A = some ⟨g, off, none⟩ ∧ g < w.heap.size ∧ w.cell? ⟨g, off + i, none⟩ = some (.int .i64 C[i]) ∧ I64 C[i]
theorem NmIn.under {w w' : World} {v : Value} {C : List Int} (h : NmIn w v C) (hb : Below w.heap.size w w') : NmIn w' v C := by
  obtain ⟨A, cap, h1, h2, h3, h4⟩ := h
  refine ⟨A, cap, h1, h2, h3, fun i hi => ?_⟩
  obtain ⟨g, off, a, b, c⟩ := h4 i hi
  exact ⟨g, off, a, Nat.lt_of_lt_of_le b hb.size, (hb.cell (p := ⟨g, off + i, none⟩) b).trans c.1, c.2⟩
theorem NmIn.of {w : World} {v : Value} (h : ListIn w v) : ∃ C, NmIn w v C := by
  rcases h with rfl | ⟨a, n, c, rfl, h1, h2, h3⟩
  · exact ⟨[], none, 0, rfl, Nat.le_refl _, by omega, fun i hi => by simp at hi⟩
  · have hx : ∀ i, ∃ x : Int, i < n → ∃ bk off, a = ⟨bk, off, none⟩ ∧ bk < w.heap.size ∧ w.cell? ⟨bk, off + i, none⟩ = some (.int .i64 x) ∧ I64 x := fun i => by
      by_cases hi : i < n
      · obtain ⟨bk, off, x, e, hl, hc, hI⟩ := h3 i hi
        exact ⟨x, fun _ => ⟨bk, off, by injection e, hl, hc, hI⟩⟩
      · exact ⟨0, fun h => absurd h hi⟩
    have hch : ∃ f : Nat → Int, ∀ i, i < n → ∃ bk off, a = ⟨bk, off, none⟩ ∧ bk < w.heap.size ∧ w.cell? ⟨bk, off + i, none⟩ = some (.int .i64 (f i)) ∧ I64 (f i) := ⟨fun i => Classical.choose (hx i), fun i => Classical.choose_spec (hx i)⟩
    obtain ⟨f, hf⟩ := hch
    refine ⟨(List.range n).map f, some a, c, by simp, by simpa using h1, h2, fun i hi => ?_⟩
    have hi' : i < n := by simpa using hi
    obtain ⟨bk, off, e, hl, hc⟩ := hf i hi'
    exact ⟨bk, off, by rw [e], hl, by simpa using hc.1, by simpa using hc.2⟩
theorem NmIn.one {w : World} {v : Value} {C : List Int} (h : NmIn w v C) (hp : 0 < C.length) : ∃ g off cap, v = .slice (some ⟨g, off, none⟩) C.length cap ∧ C.length ≤ cap ∧ cap ≤ 9223372036854775807 ∧ g < w.heap.size ∧ ∀ i (h : i < C.length), w.cell? ⟨g, off + i, none⟩ = some (.int .i64 C[i]) ∧ I64 C[i] := by
  obtain ⟨A, cap, rfl, h2, h3, h4⟩ := h
  obtain ⟨g, off, rfl, hg, -⟩ := h4 0 hp
  refine ⟨g, off, cap, rfl, h2, h3, hg, fun i hi => ?_⟩
  obtain ⟨g', off', e, -, c⟩ := h4 i hi
  injection e with e
  injection e with e1 e2
  subst e1; subst e2
  exact c
theorem NmIn.len {w : World} {v : Value} {C : List Int} (h : NmIn w v C) : C.length ≤ 9223372036854775807 := by
  obtain ⟨A, cap, -, h2, h3, -⟩ := h
  omega
theorem NmIn.nil (w : World) : NmIn w (.slice none 0 0) [] := ⟨none, 0, rfl, Nat.le_refl _, by omega, fun i hi => by simp at hi⟩
/-- A part of a list of numbers. -/
theorem NmIn.drop {w : World} {A : Option Addr} {n cap : Nat} {C : List Int} (h : NmIn w (.slice A n cap) C) {g off k : Nat} (hA : A = some ⟨g, off, none⟩) (hk : k ≤ C.length) : NmIn w (.slice (some ⟨g, off + k, none⟩) (C.length - k) (cap - k)) (C.drop k) := by
  subst hA
  obtain ⟨A', cap', e, h2, h3, h4⟩ := h
  injection e with e1 e2 e3
  subst e1; subst e2; subst e3
  refine ⟨some ⟨g, off + k, none⟩, cap - k, by rw [List.length_drop], by rw [List.length_drop]; omega, by omega, fun i hi => ?_⟩
  rw [List.length_drop] at hi
  obtain ⟨g', off', e, hl, hc⟩ := h4 (k + i) (by omega)
  injection e with e
  injection e with e1 e2
  subst e1; subst e2
  exact ⟨g, off + k, rfl, hl, by rw [List.getElem_drop, Nat.add_assoc]; exact hc.1, by rw [List.getElem_drop]; exact hc.2⟩
theorem NmIn.take {w : World} {A : Option Addr} {n cap : Nat} {C : List Int} (h : NmIn w (.slice A n cap) C) {k : Nat} (hk : k ≤ C.length) : NmIn w (.slice A k cap) (C.take k) := by
  obtain ⟨A', cap', e, h2, h3, h4⟩ := h
  injection e with e1 e2 e3
  subst e1; subst e2; subst e3
  refine ⟨A, cap, by rw [List.length_take, Nat.min_eq_left hk], by rw [List.length_take]; omega, by omega, fun i hi => ?_⟩
  rw [List.length_take] at hi
  obtain ⟨g', off', e, hl, hc⟩ := h4 i (by omega)
  exact ⟨g', off', e, hl, by rw [List.getElem_take]; exact hc.1, by rw [List.getElem_take]; exact hc.2⟩
/-- The cells of entries. -/
def encE (e : En) : List Value := [.int .i64 e.1, .int .i64 e.2.1, .int .i64 e.2.2.1, .int .i64 e.2.2.2.1, .int .i64 e.2.2.2.2]
abbrev enV (e : En) : Value := .agg #[.int .i64 e.1, .int .i64 e.2.1, .int .i64 e.2.2.1, .int .i64 e.2.2.2.1, .int .i64 e.2.2.2.2]
theorem encE_len (e : En) : (encE e).length = 5 := rfl
def rowE (L : List En) : List Value := L.flatMap encE
theorem rowE_snoc (L : List En) (e : En) : rowE (L ++ [e]) = rowE L ++ encE e := by simp [rowE]
theorem rowE_len : ∀ L : List En, (rowE L).length = L.length * 5
  | [] => rfl
  | e :: r => by
    have e1 : rowE (e :: r) = encE e ++ rowE r := rfl
    rw [e1, List.length_append, rowE_len r]
    simp only [encE, List.length_cons, List.length_nil]
    omega
/-- Five cells hold an entry. -/
def At5 (w : World) (g o : Nat) (e : En) : Prop := w.cell? ⟨g, o, none⟩ = some (.int .i64 e.1) ∧ w.cell? ⟨g, o + 1, none⟩ = some (.int .i64 e.2.1) ∧ w.cell? ⟨g, o + 2, none⟩ = some (.int .i64 e.2.2.1) ∧ w.cell? ⟨g, o + 3, none⟩ = some (.int .i64 e.2.2.2.1) ∧ w.cell? ⟨g, o + 4, none⟩ = some (.int .i64 e.2.2.2.2)
theorem At5.under {w w' : World} {g o : Nat} {e : En} (h : At5 w g o e) (hg : g < w.heap.size) (hb : Below w.heap.size w w') : At5 w' g o e := by
  obtain ⟨a, b, c, d, f⟩ := h
  exact ⟨(hb.cell (p := ⟨g, o, none⟩) hg).trans a, (hb.cell (p := ⟨g, o + 1, none⟩) hg).trans b, (hb.cell (p := ⟨g, o + 2, none⟩) hg).trans c, (hb.cell (p := ⟨g, o + 3, none⟩) hg).trans d, (hb.cell (p := ⟨g, o + 4, none⟩) hg).trans f⟩
theorem rowE_at : ∀ (L : List En) (i : Nat) (h : i < L.length), (rowE L)[i * 5]? = some (.int .i64 (L[i]).1) ∧ (rowE L)[i * 5 + 1]? = some (.int .i64 (L[i]).2.1) ∧ (rowE L)[i * 5 + 2]? = some (.int .i64 (L[i]).2.2.1) ∧ (rowE L)[i * 5 + 3]? = some (.int .i64 (L[i]).2.2.2.1) ∧ (rowE L)[i * 5 + 4]? = some (.int .i64 (L[i]).2.2.2.2)
  | x :: r, 0, _ => ⟨rfl, rfl, rfl, rfl, rfl⟩
  | x :: r, i + 1, h => by
    have := rowE_at r i (by simpa using h)
    have e : rowE (x :: r) = .int .i64 x.1 :: .int .i64 x.2.1 :: .int .i64 x.2.2.1 :: .int .i64 x.2.2.2.1 :: .int .i64 x.2.2.2.2 :: rowE r := rfl
    rw [e, show (i + 1) * 5 = i * 5 + 1 + 1 + 1 + 1 + 1 by omega]
    simpa using this
/-- A list of entries as the program holds it. -/
def EnIn (w : World) (v : Value) (L : List En) : Prop := ∃ A cap, v = .slice A L.length cap ∧ L.length ≤ cap ∧ cap ≤ 9223372036854775807 ∧ ∀ i (h : i < L.length), ∃ g off, A = some ⟨g, off, none⟩ ∧ g < w.heap.size ∧ At5 w g (off + i * 5) L[i] ∧ I64 (L[i]).1
theorem EnIn.under {w w' : World} {v : Value} {L : List En} (h : EnIn w v L) (hb : Below w.heap.size w w') : EnIn w' v L := by
  obtain ⟨A, cap, h1, h2, h3, h4⟩ := h
  refine ⟨A, cap, h1, h2, h3, fun i hi => ?_⟩
  obtain ⟨g, off, a, b, c⟩ := h4 i hi
  exact ⟨g, off, a, Nat.lt_of_lt_of_le b hb.size, c.1.under b hb, c.2⟩
theorem EnIn.nil (w : World) : EnIn w (.slice none 0 0) [] := ⟨none, 0, rfl, Nat.le_refl _, by omega, fun i hi => by simp at hi⟩
theorem EnIn.own {w : World} {base : Nat} {v : Value} {L : List En} (hI : ∀ e ∈ L, I64 e.1) (h : w.ownsRow base 47 5 v L.length (rowE L)) : EnIn w v L := by
  have h' := h
  rcases h.2 with ⟨rfl, h0⟩ | ⟨g, cap, cur, rfl, _, hh, hle, hmax, _, _⟩
  · have := List.eq_nil_of_length_eq_zero h0
    subst this
    exact EnIn.nil w
  · refine ⟨some ⟨g, 0, none⟩, cap, rfl, hle, by unfold maxLen at hmax; omega, fun i hi => ⟨g, 0, rfl, (Array.getElem?_eq_some_iff.1 hh).1, ?_, hI _ (List.getElem_mem hi)⟩⟩
    rw [Nat.zero_add]
    have r := rowE_at L i hi
    unfold At5
    rw [h'.cellAt (i * 5) (by omega), h'.cellAt (i * 5 + 1) (by omega), h'.cellAt (i * 5 + 2) (by omega), h'.cellAt (i * 5 + 3) (by omega), h'.cellAt (i * 5 + 4) (by omega)]
    exact r
/-- A list of sequences as the program holds it. -/
def SqIn (w : World) (v : Value) (L : List Sq) : Prop := ∃ A cap, v = .slice A L.length cap ∧ L.length ≤ cap ∧ cap ≤ 9223372036854775807 ∧ ∀ i (h : i < L.length), ∃ g off u, A = some ⟨g, off, none⟩ ∧ g < w.heap.size ∧ w.cell? ⟨g, off + i * 2, none⟩ = some (.int .i64 (L[i]).1) ∧ w.cell? ⟨g, off + i * 2 + 1, none⟩ = some u ∧ NmIn w u (L[i]).2 ∧ I64 (L[i]).1
theorem SqIn.under {w w' : World} {v : Value} {L : List Sq} (h : SqIn w v L) (hb : Below w.heap.size w w') : SqIn w' v L := by
  obtain ⟨A, cap, h1, h2, h3, h4⟩ := h
  refine ⟨A, cap, h1, h2, h3, fun i hi => ?_⟩
  obtain ⟨g, off, u, a, b, c, d, e⟩ := h4 i hi
  exact ⟨g, off, u, a, Nat.lt_of_lt_of_le b hb.size, (hb.cell (p := ⟨g, off + i * 2, none⟩) b).trans c, (hb.cell (p := ⟨g, off + i * 2 + 1, none⟩) b).trans d, e.1.under hb, e.2⟩
theorem SqIn.nil (w : World) : SqIn w (.slice none 0 0) [] := ⟨none, 0, rfl, Nat.le_refl _, by omega, fun i hi => by simp at hi⟩
/-- A table as the program holds it. -/
def TbIn (w : World) (t : Value) (v : Int) (es : List En) (ss : List Sq) : Prop := ∃ a b, t = .agg #[.int .i64 v, a, b] ∧ EnIn w a es ∧ SqIn w b ss
theorem TbIn.under {w w' : World} {t : Value} {v : Int} {es : List En} {ss : List Sq} (h : TbIn w t v es ss) (hb : Below w.heap.size w w') : TbIn w' t v es ss := by
  obtain ⟨a, b, e, h1, h2⟩ := h
  exact ⟨a, b, e, h1.under hb, h2.under hb⟩
theorem row5 {w : World} {b : Nat} {t : TypeId} {x y z u s : Value} (h : Row w b t #[x, y, z, u, s]) :
    w.cell? ⟨b, 0, none⟩ = some x ∧ w.cell? ⟨b, 1, none⟩ = some y ∧ w.cell? ⟨b, 2, none⟩ = some z ∧ w.cell? ⟨b, 3, none⟩ = some u ∧ w.cell? ⟨b, 4, none⟩ = some s :=
  ⟨(h.cell 0).trans rfl, (h.cell 1).trans rfl, (h.cell 2).trans rfl, (h.cell 3).trans rfl, (h.cell 4).trans rfl⟩
theorem agg47 : ∀ w, (isAgg 47).run Tryd.prog w = .ok true w := Tryd.isAgg47
theorem size47 : ∀ w, (Go.sizeOf 47).run Tryd.prog w = .ok 5 w := Tryd.sizeOf47
end Go.Proofs.YtjaopjhfjijdaaaDoor
