/- Three lists that a law appends to; what they record. -/
import Derived.Test.YtjabnicflpeopaaTri
namespace Go.Proofs.Ytjabnicflpeopaa
open Go.RowKit

/-- Two lists do not share their memory. -/
def Dis (u v : Value) : Prop := ∀ g, u.ownBlock = some g → v.ownBlock ≠ some g
theorem Dis.symm {u v : Value} (h : Dis u v) : Dis v u := fun g e f => h g f e
theorem dis_nil (v : Value) : Dis (.slice none 0 0) v := fun g e => by cases e
theorem keep_own {Y Y' : World} {B : Nat} {u v : Value} {X : List Int} (h : OwnI Y B v X) (hd : Dis u v) (hg : Y.grownBy Y' u.ownBlock) : OwnI Y' B v X := by
  refine h.kept hg ?_
  cases hv : v.ownBlock with
  | none => exact .inl rfl
  | some g => exact .inr (fun e => hd g e.symm hv)
theorem dis_new {Y : World} {B g n c H : Nat} {u v : Value} {X : List Int} (h : OwnI Y B v X) (hd : Dis u v) (hH : Y.heap.size = H) (hat : u.ownBlock = some g ∨ g = H) : Dis (.slice (some ⟨g, 0, none⟩) n c) v := fun g' e => by
  have e1 : g = g' := by injection e
  subst e1
  rcases hat with q | q
  · exact hd _ q
  · intro f
    have := (h.lt g f).2
    omega
theorem keep_any {Y Y' : World} {B g : Nat} {v : Value} {X : List Int} (h : OwnI Y B v X) (hg : Y.grownBy Y' (some g)) (hB : g < B) : OwnI Y' B v X := h.kept hg (.inr (fun e => by have := (h.lt g e).1; omega))
/-- The three lists. -/
structure Own3 (B : Nat) (u1 u2 u3 : Value) (T X V : List Int) (Y : World) : Prop where
  a : OwnI Y B u1 T
  b : OwnI Y B u2 X
  c : OwnI Y B u3 V
  ab : Dis u1 u2
  ac : Dis u1 u3
  bc : Dis u2 u3
theorem Own3.nil (B : Nat) (Y : World) : Own3 B (.slice none 0 0) (.slice none 0 0) (.slice none 0 0) [] [] [] Y := ⟨OwnI.nil _ _, OwnI.nil _ _, OwnI.nil _ _, dis_nil _, dis_nil _, dis_nil _⟩
section
variable {B : Nat} {u1 u2 u3 : Value} {T X V : List Int} {Y Y' : World}
theorem Own3.under (h : Own3 B u1 u2 u3 T X V Y) (hb : Below Y.heap.size Y Y') : Own3 B u1 u2 u3 T X V Y' := ⟨own_under h.a hb, own_under h.b hb, own_under h.c hb, h.ab, h.ac, h.bc⟩
theorem Own3.any (h : Own3 B u1 u2 u3 T X V Y) {g : Nat} (hg : Y.grownBy Y' (some g)) (hB : g < B) : Own3 B u1 u2 u3 T X V Y' := ⟨keep_any h.a hg hB, keep_any h.b hg hB, keep_any h.c hg hB, h.ab, h.ac, h.bc⟩
theorem Own3.more1 (h : Own3 B u1 u2 u3 T X V Y) {x : Int} {g n c H : Nat} (hown : Y'.ownsRow B 3 1 (.slice (some ⟨g, 0, none⟩) n c) (T.length + 1) (ic T ++ [.int .i64 x])) (hg : Y.grownBy Y' u1.ownBlock) (hH : Y.heap.size = H) (hat : u1.ownBlock = some g ∨ g = H) :
    Own3 B (.slice (some ⟨g, 0, none⟩) n c) u2 u3 (T ++ [x]) X V Y' := ⟨OwnI.more hown, keep_own h.b h.ab hg, keep_own h.c h.ac hg, dis_new h.b h.ab hH hat, dis_new h.c h.ac hH hat, h.bc⟩
theorem Own3.more2 (h : Own3 B u1 u2 u3 T X V Y) {x : Int} {g n c H : Nat} (hown : Y'.ownsRow B 3 1 (.slice (some ⟨g, 0, none⟩) n c) (X.length + 1) (ic X ++ [.int .i64 x])) (hg : Y.grownBy Y' u2.ownBlock) (hH : Y.heap.size = H) (hat : u2.ownBlock = some g ∨ g = H) :
    Own3 B u1 (.slice (some ⟨g, 0, none⟩) n c) u3 T (X ++ [x]) V Y' := ⟨keep_own h.a h.ab.symm hg, OwnI.more hown, keep_own h.c h.bc hg, (dis_new h.a h.ab.symm hH hat).symm, h.ac, dis_new h.c h.bc hH hat⟩
theorem Own3.more3 (h : Own3 B u1 u2 u3 T X V Y) {x : Int} {g n c H : Nat} (hown : Y'.ownsRow B 3 1 (.slice (some ⟨g, 0, none⟩) n c) (V.length + 1) (ic V ++ [.int .i64 x])) (hg : Y.grownBy Y' u3.ownBlock) (hH : Y.heap.size = H) (hat : u3.ownBlock = some g ∨ g = H) :
    Own3 B u1 u2 (.slice (some ⟨g, 0, none⟩) n c) T X (V ++ [x]) Y' := ⟨keep_own h.a h.ac.symm hg, keep_own h.b h.bc.symm hg, OwnI.more hown, h.ab, (dis_new h.a h.ac.symm hH hat).symm, (dis_new h.b h.bc.symm hH hat).symm⟩
end
/-- Bytes that do not lie in a list's memory. -/
def Apart (A : Option Addr) (L : List Nat) (u : Value) : Prop := 0 < L.length → ∀ bk off, A = some ⟨bk, off, none⟩ → u.ownBlock ≠ some bk
theorem apart_none (L : List Nat) (u : Value) : Apart none L u := fun _ bk off e => by cases e
theorem apart_new {Y : World} {A : Option Addr} {c : Nat} {L : List Nat} {u : Value} {g n c' H : Nat} (hb : Bys Y A c L) (h : Apart A L u) (hH : Y.heap.size = H) (hat : u.ownBlock = some g ∨ g = H) : Apart A L (.slice (some ⟨g, 0, none⟩) n c') := fun hl bk off e f => by
  have e1 : g = bk := by injection f
  subst e1
  rcases hat with q | q
  · exact h hl _ _ e q
  · obtain ⟨bk', off', e', hlt, -⟩ := hb.addr hl
    rw [e] at e'
    injection e' with e'
    injection e' with e1 e2
    omega
theorem apart_fresh {w : World} {A : Option Addr} {L : List Nat} {B : Nat} {u : Value} {X : List Int} (h : ∀ bk off, A = some ⟨bk, off, none⟩ → w.heap.size ≤ bk) (ho : OwnI w B u X) : Apart A L u := fun _ bk off e f => by
  have h1 := h bk off e
  have h2 := (ho.lt bk f).2
  omega
theorem bys_kept {a b : World} {v : Value} {A : Option Addr} {c : Nat} {L : List Nat} (h : Bys a A c L) (hp : Apart A L v) (k : a.grownBy b v.ownBlock) : Bys b A c L :=
  ⟨h.1, h.2.1, h.2.2.1, h.2.2.2.1, fun i hi => by
    obtain ⟨bk, off, e, hlt, hc⟩ := h.2.2.2.2 i hi
    refine ⟨bk, off, e, Nat.lt_of_lt_of_le hlt k.size, ?_⟩
    rw [← hc]
    unfold World.cell?
    rw [show (⟨bk, off + i, Option.none⟩ : Addr).block = bk from rfl, k.block bk hlt (fun e2 => hp (by omega) bk off e e2.symm)]⟩
/-- What the three lists record of the bits f: where, how wide, which number. -/
def Rec (T X V : List Int) (n : Nat) (f : Nat → Bool) : Prop := T.length = X.length ∧ T.length = V.length ∧ ∀ j, j < T.length → ∃ t k v : Nat, T[j]? = some (t : Int) ∧ X[j]? = some (k : Int) ∧ V[j]? = some (v : Int) ∧ 1 ≤ k ∧ k ≤ 24 ∧ v < 2 ^ k ∧ t + k ≤ n ∧ ∀ i, i < k → f (t + i) = v.testBit (k - 1 - i)
theorem Rec.nil (f : Nat → Bool) : Rec [] [] [] 0 f := ⟨rfl, rfl, fun j h => by cases h⟩
theorem Rec.more {T X V : List Int} {n : Nat} {f : Nat → Bool} (h : Rec T X V n f) {k v : Nat} (h1 : 1 ≤ k) (h2 : k ≤ 24) (hv : v < 2 ^ k) : Rec (T ++ [(n : Int)]) (X ++ [(k : Int)]) (V ++ [(v : Int)]) (n + k) (wrt (pack n f) n v k) := by
  obtain ⟨e1, e2, hr⟩ := h
  refine ⟨by simp [e1], by simp [e2], fun j hj => ?_⟩
  rw [List.length_append, List.length_singleton] at hj
  by_cases hlt : j < T.length
  · obtain ⟨t, k', v', a1, a2, a3, a4, a5, a6, a7, a8⟩ := hr j hlt
    refine ⟨t, k', v', ?_, ?_, ?_, a4, a5, a6, by omega, fun i hi => ?_⟩
    · rw [List.getElem?_append_left hlt]; exact a1
    · rw [List.getElem?_append_left (by omega)]; exact a2
    · rw [List.getElem?_append_left (by omega)]; exact a3
    · unfold wrt
      rw [if_pos (by omega), bt_pack (by omega)]
      exact a8 i hi
  · obtain rfl : j = T.length := by omega
    refine ⟨n, k, v, ?_, ?_, ?_, h1, h2, hv, Nat.le_refl _, fun i hi => ?_⟩
    · rw [List.getElem?_append_right (Nat.le_refl _), Nat.sub_self]; rfl
    · rw [e1, List.getElem?_append_right (Nat.le_refl _), Nat.sub_self]; rfl
    · rw [e2, List.getElem?_append_right (Nat.le_refl _), Nat.sub_self]; rfl
    · unfold wrt
      rw [if_neg (by omega), Nat.add_sub_cancel_left]
/-- What is read back. -/
theorem read_rec {n t k v : Nat} {f : Nat → Bool} (hn : n ≤ 40000) (h1 : 1 ≤ k) (h2 : k ≤ 24) (hv : v < 2 ^ k) (ht : t + k ≤ n) (hf : ∀ i, i < k → f (t + i) = v.testBit (k - 1 - i)) : readA (pack n f) n t k = ((v : Int), 0) := by
  have hk : isw (k : Int) = true := by unfold isw; exact decide_eq_true ⟨by omega, by omega⟩
  unfold readA
  rw [if_neg (by rw [vb_pack _ _ hn]; simp), if_neg (by simp [hk]), if_neg (by omega), if_neg (by omega)]
  rw [Int.toNat_natCast, Int.toNat_natCast]
  rw [num_eq hv (fun i hi => by rw [bt_pack (by omega)]; exact hf i hi)]
theorem app_pack {n V K : Nat} {f : Nat → Bool} (h1 : 1 ≤ K) (h2 : K ≤ 24) (hV : V < 2 ^ K) (hl : n + K ≤ 40000) : vb (pack n f) n = true ∧ fits (V : Int) (K : Int) = true ∧ ¬ (40000 : Int) < (n : Int) + K :=
  ⟨vb_pack n f (by omega), (fits_iff _ _).2 ⟨by omega, by omega, by omega, by rw [Int.toNat_natCast]; have := Int.ofNat_lt.2 hV; rwa [Int.natCast_pow] at this⟩, by omega⟩
theorem wrap64_I64 (x : Int) : I64 (wrap64 x) := by
  unfold I64 wrap64
  omega
/-- What is in memory while the lists grow: the source, the lists, the box of the bits. -/
structure Bk (w : World) (B g4 : Nat) (u1 u2 u3 : Value) (T X V : List Int) (A : Option Addr) (c : Nat) (L : List Nat) (n : Int) (Y : World) : Prop where
  src : Src w w.heap.size Y
  own : Own3 B u1 u2 u3 T X V Y
  box : Bx Y g4 A c L n
  p1 : Apart A L u1
  p2 : Apart A L u2
  p3 : Apart A L u3
  size : B ≤ Y.heap.size
section
variable {w : World} {B g4 : Nat} {u1 u2 u3 : Value} {T X V : List Int} {A : Option Addr} {c : Nat} {L : List Nat} {n : Int} {Y Y' : World}
theorem Bk.under (h : Bk w B g4 u1 u2 u3 T X V A c L n Y) (hb : Below Y.heap.size Y Y') : Bk w B g4 u1 u2 u3 T X V A c L n Y' :=
  ⟨h.src.under hb, h.own.under hb, h.box.under hb, h.p1, h.p2, h.p3, Nat.le_trans h.size hb.size⟩
theorem Bk.read (h : Bk w B g4 u1 u2 u3 T X V A c L n Y) (hs : Src w w.heap.size Y') (hg : Y.grownBy Y' (some w.heap.size)) (hB : w.heap.size < B) (h4 : g4 ≠ w.heap.size) : Bk w B g4 u1 u2 u3 T X V A c L n Y' :=
  ⟨hs, h.own.any hg hB, h.box.read h4 h.src hg, h.p1, h.p2, h.p3, Nat.le_trans h.size hg.size⟩
theorem src_kept {v : Value} {Z : List Int} (h : Src w w.heap.size Y) (ho : OwnI Y B v Z) (hg : Y.grownBy Y' v.ownBlock) (hB : w.heap.size < B) : Src w w.heap.size Y' :=
  h.grown hg (fun g e => by have := (ho.lt g e).1; omega)
theorem Bk.app1 (h : Bk w B g4 u1 u2 u3 T X V A c L n Y) (hB : w.heap.size < B) (h4 : g4 < B) {x : Int} {g m k H : Nat} (hown : Y'.ownsRow B 3 1 (.slice (some ⟨g, 0, none⟩) m k) (T.length + 1) (ic T ++ [.int .i64 x])) (hg : Y.grownBy Y' u1.ownBlock) (hH : Y.heap.size = H) (hat : u1.ownBlock = some g ∨ g = H) :
    Bk w B g4 (.slice (some ⟨g, 0, none⟩) m k) u2 u3 (T ++ [x]) X V A c L n Y' :=
  ⟨src_kept h.src h.own.a hg hB, h.own.more1 hown hg hH hat, ⟨row_own h.box.1 h4 h.own.a hg, bys_kept h.box.2 h.p1 hg⟩, apart_new h.box.2 h.p1 hH hat, h.p2, h.p3, Nat.le_trans h.size hg.size⟩
theorem Bk.app2 (h : Bk w B g4 u1 u2 u3 T X V A c L n Y) (hB : w.heap.size < B) (h4 : g4 < B) {x : Int} {g m k H : Nat} (hown : Y'.ownsRow B 3 1 (.slice (some ⟨g, 0, none⟩) m k) (X.length + 1) (ic X ++ [.int .i64 x])) (hg : Y.grownBy Y' u2.ownBlock) (hH : Y.heap.size = H) (hat : u2.ownBlock = some g ∨ g = H) :
    Bk w B g4 u1 (.slice (some ⟨g, 0, none⟩) m k) u3 T (X ++ [x]) V A c L n Y' :=
  ⟨src_kept h.src h.own.b hg hB, h.own.more2 hown hg hH hat, ⟨row_own h.box.1 h4 h.own.b hg, bys_kept h.box.2 h.p2 hg⟩, h.p1, apart_new h.box.2 h.p2 hH hat, h.p3, Nat.le_trans h.size hg.size⟩
theorem Bk.app3 (h : Bk w B g4 u1 u2 u3 T X V A c L n Y) (hB : w.heap.size < B) (h4 : g4 < B) {x : Int} {g m k H : Nat} (hown : Y'.ownsRow B 3 1 (.slice (some ⟨g, 0, none⟩) m k) (V.length + 1) (ic V ++ [.int .i64 x])) (hg : Y.grownBy Y' u3.ownBlock) (hH : Y.heap.size = H) (hat : u3.ownBlock = some g ∨ g = H) :
    Bk w B g4 u1 u2 (.slice (some ⟨g, 0, none⟩) m k) T X (V ++ [x]) A c L n Y' :=
  ⟨src_kept h.src h.own.c hg hB, h.own.more3 hown hg hH hat, ⟨row_own h.box.1 h4 h.own.c hg, bys_kept h.box.2 h.p3 hg⟩, h.p1, h.p2, apart_new h.box.2 h.p3 hH hat, Nat.le_trans h.size hg.size⟩
/-- The box is written anew. -/
theorem Bk.wrote (h : Bk w B g4 u1 u2 u3 T X V A c L n Y) (h4 : g4 < B) (h5 : w.heap.size ≤ g4 ∧ g4 ≠ w.heap.size) {A' : Option Addr} {c' : Nat} {L' : List Nat} {n' : Int} (hb : Bys Y A' c' L') (p1 : Apart A' L' u1) (p2 : Apart A' L' u2) (p3 : Apart A' L' u3) :
    Bk w B g4 u1 u2 u3 T X V A' c' L' n' (wr2 Y g4 A' L'.length c' n') :=
  ⟨Src.grown (Src.grown h.src (grown_set0 _ _ _ _) (fun g e => by injection e with e; subst e; exact h5)) (grown_set0 _ _ _ _) (fun g e => by injection e with e; subst e; exact h5),
   (h.own.any (grown_set0 _ _ _ _) h4).any (grown_set0 _ _ _ _) h4, Bx.wrote hb h.box.1, p1, p2, p3, by simp [wr2, World.setCell]; exact h.size⟩
end
end Go.Proofs.Ytjabnicflpeopaa
