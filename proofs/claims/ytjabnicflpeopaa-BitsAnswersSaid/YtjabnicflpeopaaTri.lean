/- An array of three lists of bits in memory; what joins give. -/
import Derived.Test.YtjabnicflpeopaaLst
import Derived.Deep.Upon
import Derived.Test.YtjabnicflpeopaaLimLaw
namespace Go.Proofs.Ytjabnicflpeopaa
open Go.RowKit

/-- The cells of three lists. -/
abbrev c6 (A0 : Option Addr) (c0 : Nat) (L0 : List Nat) (n0 : Nat) (A1 : Option Addr) (c1 : Nat) (L1 : List Nat) (n1 : Nat) (A2 : Option Addr) (c2 : Nat) (L2 : List Nat) (n2 : Nat) : Array Value :=
  #[.slice A0 L0.length c0, .int .i64 n0, .slice A1 L1.length c1, .int .i64 n1, .slice A2 L2.length c2, .int .i64 n2]
theorem row6 {w : World} {b : Nat} {t : TypeId} {x0 x1 x2 x3 x4 x5 : Value} (h : Row w b t #[x0, x1, x2, x3, x4, x5]) :
    w.cell? ⟨b, 0, none⟩ = some x0 ∧ w.cell? ⟨b, 1, none⟩ = some x1 ∧ w.cell? ⟨b, 2, none⟩ = some x2 ∧ w.cell? ⟨b, 3, none⟩ = some x3 ∧ w.cell? ⟨b, 4, none⟩ = some x4 ∧ w.cell? ⟨b, 5, none⟩ = some x5 :=
  ⟨(h.cell 0).trans rfl, (h.cell 1).trans rfl, (h.cell 2).trans rfl, (h.cell 3).trans rfl, (h.cell 4).trans rfl, (h.cell 5).trans rfl⟩
theorem grown_set0 (w : World) (g j : Nat) (u : Value) : w.grownBy (w.setCell ⟨g, j, none⟩ u) (some g) :=
  ⟨rfl, rfl, rfl, by simp [World.setCell], fun k _ hk => Below.heap_setCell w ⟨g, j, none⟩ u k (fun e => hk (by rw [e]))⟩
/-- A store into a block without bytes. -/
theorem Bys.far2 {w : World} {A : Option Addr} {c : Nat} {L : List Nat} (h : Bys w A c L) {g j : Nat} {u : Value} {t : TypeId} {cs : Array Value} (hr : Row w g t cs) (hcs : ∀ (j : Nat) (x : Int), cs[j]? ≠ some (.int .u8 x)) : Bys (w.setCell ⟨g, j, Option.none⟩ u) A c L :=
  ⟨h.1, h.2.1, h.2.2.1, h.2.2.2.1, fun i hi => by
    obtain ⟨bk, off, e, hlt, hc⟩ := h.2.2.2.2 i hi
    refine ⟨bk, off, e, by simp [World.setCell]; exact hlt, ?_⟩
    have hne : bk ≠ g := fun e => by
      subst e
      rw [hr.cell] at hc
      exact hcs _ _ hc
    have hb := Below.heap_setCell w ⟨g, j, Option.none⟩ u bk hne
    rw [← hc]
    unfold World.cell?
    rw [show (⟨bk, off + i, Option.none⟩ : Addr).block = bk from rfl, hb]⟩
theorem six_u8 (A0 A1 A2 : Option Addr) (k0 c0 k1 c1 k2 c2 : Nat) (n0 n1 n2 : Int) : ∀ (j : Nat) (x : Int), (#[.slice A0 k0 c0, .int .i64 n0, .slice A1 k1 c1, .int .i64 n1, .slice A2 k2 c2, .int .i64 n2] : Array Value)[j]? ≠ some (.int .u8 x) := by
  intro j x e
  rcases (by omega : j = 0 ∨ j = 1 ∨ j = 2 ∨ j = 3 ∨ j = 4 ∨ j = 5 ∨ 6 ≤ j) with q | q | q | q | q | q | q
  · subst q; simp at e
  · subst q; simp at e
  · subst q; simp at e
  · subst q; simp at e
  · subst q; simp at e
  · subst q; simp at e
  · rw [Array.getElem?_eq_none (by simpa using q)] at e; cases e
/-- Three lists of at most 40 bits. -/
def Tri (g : Nat) (Y : World) : Prop := ∃ A0 c0 f0 n0 A1 c1 f1 n1 A2 c2 f2 n2, Row Y g 49 (c6 A0 c0 (pack n0 f0) n0 A1 c1 (pack n1 f1) n1 A2 c2 (pack n2 f2) n2) ∧ Bys Y A0 c0 (pack n0 f0) ∧ Bys Y A1 c1 (pack n1 f1) ∧ Bys Y A2 c2 (pack n2 f2) ∧ n0 ≤ 40 ∧ n1 ≤ 40 ∧ n2 ≤ 40
theorem Tri.new (w : World) : Tri w.heap.size (w.alloc (.cells #[.slice none 0 0, .int .i64 0, .slice none 0 0, .int .i64 0, .slice none 0 0, .int .i64 0] 49)) :=
  ⟨none, 0, fun _ => false, 0, none, 0, fun _ => false, 0, none, 0, fun _ => false, 0, Row.new _ _ _, Bys.none _, Bys.none _, Bys.none _, by decide, by decide, by decide⟩
theorem Tri.under {g : Nat} {Y Z : World} (h : Tri g Y) (hb : Below Y.heap.size Y Z) : Tri g Z := by
  obtain ⟨A0, c0, f0, n0, A1, c1, f1, n1, A2, c2, f2, n2, r, b0, b1, b2, k⟩ := h
  exact ⟨A0, c0, f0, n0, A1, c1, f1, n1, A2, c2, f2, n2, r.under hb, b0.under hb, b1.under hb, b2.under hb, k⟩
theorem Tri.read {W : World} {b g : Nat} {Y Z : World} (h : Tri g Y) (hgb : g ≠ b) (hs : Src W b Y) (hg : Y.grownBy Z (some b)) : Tri g Z := by
  obtain ⟨A0, c0, f0, n0, A1, c1, f1, n1, A2, c2, f2, n2, r, b0, b1, b2, k⟩ := h
  exact ⟨A0, c0, f0, n0, A1, c1, f1, n1, A2, c2, f2, n2, r.grown hg (fun e => hgb (by injection e)), b0.read hs hg, b1.read hs hg, b2.read hs hg, k⟩
theorem Tri.lt {g : Nat} {Y : World} (h : Tri g Y) : g < Y.heap.size := by
  obtain ⟨A0, c0, f0, n0, A1, c1, f1, n1, A2, c2, f2, n2, r, _⟩ := h
  exact r.lt
/-- One of the three is written anew. -/
theorem Tri.put {g : Nat} {Y : World} (h : Tri g Y) (k : Nat) (hk : k < 3) {A : Option Addr} {c : Nat} {f : Nat → Bool} {n : Nat} (hn : n ≤ 40) (hb : Bys Y A c (pack n f)) :
    Tri g ((Y.setCell ⟨g, k * 2, none⟩ (.slice A (pack n f).length c)).setCell ⟨g, k * 2 + 1, none⟩ (.int .i64 n)) := by
  obtain ⟨A0, c0, f0, n0, A1, c1, f1, n1, A2, c2, f2, n2, r, b0, b1, b2, k0, k1, k2⟩ := h
  have far : ∀ {A' : Option Addr} {c' : Nat} {L : List Nat}, Bys Y A' c' L → Bys ((Y.setCell ⟨g, k * 2, none⟩ (.slice A (pack n f).length c)).setCell ⟨g, k * 2 + 1, none⟩ (.int .i64 n)) A' c' L := by
    intro A' c' L hL
    have r1 := r.put (k * 2) (.slice A (pack n f).length c)
    rcases (by omega : k = 0 ∨ k = 1 ∨ k = 2) with rfl | rfl | rfl
    · exact (hL.far2 (j := 0 * 2) r (six_u8 _ _ _ _ _ _ _ _ _ _ _ _)).far2 (j := 0 * 2 + 1) (cs := #[.slice A (pack n f).length c, .int .i64 n0, .slice A1 (pack n1 f1).length c1, .int .i64 n1, .slice A2 (pack n2 f2).length c2, .int .i64 n2]) r1 (six_u8 _ _ _ _ _ _ _ _ _ _ _ _)
    · exact (hL.far2 (j := 1 * 2) r (six_u8 _ _ _ _ _ _ _ _ _ _ _ _)).far2 (j := 1 * 2 + 1) (cs := #[.slice A0 (pack n0 f0).length c0, .int .i64 n0, .slice A (pack n f).length c, .int .i64 n1, .slice A2 (pack n2 f2).length c2, .int .i64 n2]) r1 (six_u8 _ _ _ _ _ _ _ _ _ _ _ _)
    · exact (hL.far2 (j := 2 * 2) r (six_u8 _ _ _ _ _ _ _ _ _ _ _ _)).far2 (j := 2 * 2 + 1) (cs := #[.slice A0 (pack n0 f0).length c0, .int .i64 n0, .slice A1 (pack n1 f1).length c1, .int .i64 n1, .slice A (pack n f).length c, .int .i64 n2]) r1 (six_u8 _ _ _ _ _ _ _ _ _ _ _ _)
  have r2 := (r.put (k * 2) (.slice A (pack n f).length c)).put (k * 2 + 1) (.int .i64 (n : Int))
  rcases (by omega : k = 0 ∨ k = 1 ∨ k = 2) with rfl | rfl | rfl
  · exact ⟨A, c, f, n, A1, c1, f1, n1, A2, c2, f2, n2, r2, far hb, far b1, far b2, hn, k1, k2⟩
  · exact ⟨A0, c0, f0, n0, A, c, f, n, A2, c2, f2, n2, r2, far b0, far hb, far b2, k0, hn, k2⟩
  · exact ⟨A0, c0, f0, n0, A1, c1, f1, n1, A, c, f, n, r2, far b0, far b1, far hb, k0, k1, hn⟩
theorem genH {P : Program} {ops : Array Oper} {Q : Exit → Act → World → Prop} {md : Region.Mode} {S : World → Prop} {fuel : Nat} {listed : Array Bool} {a : Act} {w : World} (R : World → Prop) (h : R w)
    (hK : ∀ X, R X → wpAnyH P md ops Q S fuel listed a X) : wpAnyH P md ops Q S fuel listed a w := hK w h
/-- Two stores that write a box of a list of bits. -/
abbrev wr2 (w : World) (g : Nat) (A : Option Addr) (k c : Nat) (n : Int) : World := (w.setCell ⟨g, 0, none⟩ (.slice A k c)).setCell ⟨g, 1, none⟩ (.int .i64 n)
theorem Bys.set2 {w : World} {A B D : Option Addr} {c k d k' d' : Nat} {z n' : Int} {L : List Nat} (h : Bys w A c L) {g : Nat} (hr : Row w g 24 #[.slice B k d, .int .i64 z]) : Bys (wr2 w g D k' d' n') A c L :=
  Bys.far (j := 1) (Bys.far (j := 0) h hr) (Row.put hr 0 (.slice D k' d') : Row _ _ _ #[.slice D k' d', .int .i64 z])
theorem Row.set2 {w : World} {g g' : Nat} {t : TypeId} {cs : Array Value} {A : Option Addr} {k c : Nat} {n : Int} (h : Row w g t cs) (hg : g' ≠ g) : Row (wr2 w g' A k c n) g t cs :=
  Row.far (p := ⟨g', 1, none⟩) (Row.far (p := ⟨g', 0, none⟩) h hg _) hg _
theorem Bx.set2 {w : World} {g g' : Nat} {A B D : Option Addr} {c k d k' d' : Nat} {z n n' : Int} {L : List Nat} (h : Bx w g A c L n) (hg : g' ≠ g) (hr : Row w g' 24 #[.slice B k d, .int .i64 z]) : Bx (wr2 w g' D k' d' n') g A c L n :=
  ⟨h.1.set2 hg, h.2.set2 hr⟩
theorem Bx.wrote {w : World} {g : Nat} {A B : Option Addr} {c k d : Nat} {z n : Int} {L : List Nat} (h : Bys w A c L) (hr : Row w g 24 #[.slice B k d, .int .i64 z]) : Bx (wr2 w g A L.length c n) g A c L n :=
  ⟨set2_row _ _ hr, h.set2 hr⟩
/-- The bits of one behind those of another. -/
def cat (n : Nat) (f g : Nat → Bool) : Nat → Bool := fun i => if i < n then f i else g (i - n)
theorem join_pack {n m : Nat} {f g : Nat → Bool} {N M : Int} (hN : N = n) (hM : M = m) (h : n + m ≤ 40000) : joinA (pack n f) N (pack m g) M = ⟨pack (n + m) (cat n f g), N + M, 0⟩ := by
  subst hN; subst hM
  unfold joinA
  rw [if_neg (by rw [vb_pack n f (by omega)]; simp), if_neg (by rw [vb_pack m g (by omega)]; simp), if_neg (by omega)]
  rw [Int.toNat_natCast, Int.toNat_natCast]
  rw [pack_cong (g := cat n f g) (fun i hi => by
    unfold behind cat
    by_cases h1 : i < n
    · rw [if_pos h1, if_pos h1, bt_pack h1]
    · rw [if_neg h1, if_neg h1, bt_pack (by omega)])]
theorem cat_assoc (n m : Nat) (f g h : Nat → Bool) : cat (n + m) (cat n f g) h = cat n f (cat m g h) := by
  funext i
  unfold cat
  by_cases h1 : i < n
  · simp only [h1, if_true, show i < n + m by omega]
  · by_cases h2 : i < n + m
    · simp only [h1, h2, if_true, if_false, show i - n < m by omega]
    · simp only [h1, h2, if_false, show ¬ i - n < m by omega]
      rw [show i - (n + m) = i - n - m by omega]
/-- Both ways of joining three. -/
theorem join_left {n m k : Nat} {f g h : Nat → Bool} (hl : n + m + k ≤ 40000) : joinA (pack (n + m) (cat n f g)) ((n : Int) + m) (pack k h) k = ⟨pack (n + m + k) (cat n f (cat m g h)), (n : Int) + m + k, 0⟩ := by
  rw [join_pack (by omega) rfl hl, cat_assoc]
theorem join_right {n m k : Nat} {f g h : Nat → Bool} (hl : n + m + k ≤ 40000) : joinA (pack n f) n (pack (m + k) (cat m g h)) ((m : Int) + k) = ⟨pack (n + m + k) (cat n f (cat m g h)), (n : Int) + m + k, 0⟩ := by
  rw [join_pack rfl (by omega) (by omega), Nat.add_assoc, Int.add_assoc]
/-- A bit more. -/
theorem app_cat {n m i : Nat} {f g : Nat → Bool} (hi : i < m) (hl : n + m ≤ 40000) : appA (pack (n + i) (cat n f g)) ((n : Int) + i) ((g i).toNat : Nat) 1 = ⟨pack (n + (i + 1)) (cat n f g), (n : Int) + i + 1, 0⟩ := by
  have hv := vb_pack (n + i) (cat n f g) (by omega)
  have hb : (g i).toNat < 2 ^ 1 := by have := Bool.toNat_le (g i); omega
  have h0 := app_yes (n := n + i) (V := (g i).toNat) (K := 1) hv (by decide) (by decide) hb (by omega)
  have e : pack (n + i + 1) (wrt (pack (n + i) (cat n f g)) (n + i) (g i).toNat 1) = pack (n + i + 1) (cat n f g) := pack_cong (fun j hj => by
    unfold wrt
    by_cases h1 : j < n + i
    · rw [if_pos h1, bt_pack h1]
    · rw [if_neg h1]
      obtain rfl : j = n + i := by omega
      unfold cat
      rw [if_neg (by omega), Nat.add_sub_cancel_left, Nat.sub_self (n + i)]
      cases g i <;> rfl)
  have c1 : ((1 : Nat) : Int) = 1 := rfl
  rw [e, Int.natCast_add, c1] at h0
  exact h0
end Go.Proofs.Ytjabnicflpeopaa
