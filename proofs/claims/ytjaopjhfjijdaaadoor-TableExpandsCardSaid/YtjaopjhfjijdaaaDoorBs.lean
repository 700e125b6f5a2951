/- What bent holds between its steps. -/
import Derived.Test.YtjaopjhfjijdaaaDoorCo
import Derived.Test.YtjaopjhfjijdaaaDoorSeq
namespace Go.Proofs.YtjaopjhfjijdaaaDoor
open Go.RowKit

/-- A number of a list of entries is replaced. -/
theorem rowE_put (u : Int) (hu : I64 u) : ∀ (es : List En) (k : Nat), k < es.length → ∀ f, f < 5 → (∀ e ∈ es, I64 e.1) → ∃ es', es'.length = es.length ∧ (∀ e ∈ es', I64 e.1) ∧ rowE es' = (rowE es).set (k * 5 + f) (.int .i64 u)
  | x :: r, 0, _, f, hf, hI => by
    have hr : ∀ e ∈ r, I64 e.1 := fun e he => hI e (List.mem_cons_of_mem _ he)
    have hx := hI x (List.mem_cons_self ..)
    have k : ∀ y : En, I64 y.1 → ∀ e ∈ y :: r, I64 e.1 := fun y hy e he => (List.mem_cons.1 he).elim (fun q => q ▸ hy) (hr e)
    rcases (by omega : f = 0 ∨ f = 1 ∨ f = 2 ∨ f = 3 ∨ f = 4) with rfl | rfl | rfl | rfl | rfl
    · exact ⟨(u, x.2.1, x.2.2.1, x.2.2.2.1, x.2.2.2.2) :: r, rfl, k _ hu, rfl⟩
    · exact ⟨(x.1, u, x.2.2.1, x.2.2.2.1, x.2.2.2.2) :: r, rfl, k _ hx, rfl⟩
    · exact ⟨(x.1, x.2.1, u, x.2.2.2.1, x.2.2.2.2) :: r, rfl, k _ hx, rfl⟩
    · exact ⟨(x.1, x.2.1, x.2.2.1, u, x.2.2.2.2) :: r, rfl, k _ hx, rfl⟩
    · exact ⟨(x.1, x.2.1, x.2.2.1, x.2.2.2.1, u) :: r, rfl, k _ hx, rfl⟩
  | x :: r, k + 1, hk, f, hf, hI => by
    obtain ⟨es', e1, e2, e3⟩ := rowE_put u hu r k (by simpa using hk) f hf (fun e he => hI e (List.mem_cons_of_mem _ he))
    refine ⟨x :: es', by simp [e1], fun e he => (List.mem_cons.1 he).elim (fun q => q ▸ hI x (List.mem_cons_self ..)) (e2 e), ?_⟩
    have a1 : rowE (x :: es') = encE x ++ rowE es' := rfl
    have a2 : rowE (x :: r) = encE x ++ rowE r := rfl
    rw [a1, a2, e3, List.set_append_right _ _ (by rw [encE_len]; omega), encE_len, show (k + 1) * 5 + f - 5 = k * 5 + f by omega]
/-- What bent holds between its steps: the reader, its two tables, the lists. -/
def BtS (W : World) (b : Nat) (w Y : World) (ver : Int) (va vb : Value) (es : List En) (ss : List Sq) (L : List (Int × Value)) : Prop :=
  Src W b Y ∧ w.grownBy Y (some b) ∧ Row Y w.heap.size 25 #[.int .i64 ver, va, vb] ∧ Row Y (w.heap.size + 1) 25 #[.int .i64 0, .slice none 0 0, .slice none 0 0] ∧ TbL b w.heap.size Y va vb es ss L
section
variable {W w Y Y' : World} {b : Nat} {ver : Int} {va vb : Value} {es : List En} {ss : List Sq} {L : List (Int × Value)}
theorem BtS.under (h : BtS W b w Y ver va vb es ss L) (hb : Below Y.heap.size Y Y') : BtS W b w Y' ver va vb es ss L := ⟨h.1.under hb, grown_trans h.2.1 (grown_below hb), h.2.2.1.under hb, h.2.2.2.1.under hb, h.2.2.2.2.under hb⟩
theorem BtS.drew (h : BtS W b w Y ver va vb es ss L) : BtS W b w Y.drew ver va vb es ss L := h.under (below_drewN (Below.refl _ _) 1)
theorem BtS.step (h : BtS W b w Y ver va vb es ss L) (hs : Src W b Y') (hg : Y.grownBy Y' (some b)) : BtS W b w Y' ver va vb es ss L := ⟨hs, grown_trans h.2.1 hg, h.2.2.1.keep h.1 hg (by decide), h.2.2.2.1.keep h.1 hg (by decide), h.2.2.2.2.step hg⟩
theorem BtS.vers (h : BtS W b w Y ver va vb es ss L) (u : Int) : BtS W b w (Y.setCell ⟨w.heap.size, 0, none⟩ (.int .i64 u)) u va vb es ss L := by
  have hbb := h.2.2.2.2.1
  have hW := h.1.base
  exact ⟨src_put h.1 (by omega) (by omega), gro_set h.2.1 (Nat.le_refl _), h.2.2.1.put 0 _, h.2.2.2.1.far (p := ⟨w.heap.size, 0, none⟩) (by show w.heap.size ≠ w.heap.size + 1; omega) _, h.2.2.2.2.put h.2.2.1⟩
theorem BtS.ent {g n c : Nat} (h : BtS W b w Y ver (.slice (some ⟨g, 0, none⟩) n c) vb es ss L) {k f : Nat} (hk : k < es.length) (hf : f < 5) {u : Int} (hu : I64 u) : ∃ es', es'.length = es.length ∧ BtS W b w (Y.setCell ⟨g, k * 5 + f, none⟩ (.int .i64 u)) ver (.slice (some ⟨g, 0, none⟩) n c) vb es' ss L := by
  obtain ⟨hs, hg, r1, r2, hbb, hI, o1, o2, el, hl⟩ := h
  have hW := hs.base
  obtain ⟨es', e1, e2, e3⟩ := rowE_put u hu es k hk f hf hI
  have hn : n = es.length := by
    rcases o1.2 with ⟨q, -⟩ | ⟨g', c', cur, q, -⟩
    · simp at q
    · injection q
  subst hn
  have hge := o1.lt g rfl
  obtain ⟨s1, s2⟩ := o1.stored (k * 5 + f) (.int .i64 u)
  rw [← e3] at s1
  refine ⟨es', e1, src_put hs (by omega) (by omega), gro_set hg hge.1, r1.far (p := ⟨g, k * 5 + f, none⟩) (Ne.symm (by simpa [Value.ownBlock] using own_ne o1 r1 (by decide))) _, r2.far (p := ⟨g, k * 5 + f, none⟩) (Ne.symm (by simpa [Value.ownBlock] using own_ne o1 r2 (by decide))) _, hbb, e2, by rw [e1]; exact s1, o2.kept s2 (own_apart o2 o1 (by decide)), el, fun j hj => ⟨(hl j hj).1, (hl j hj).2.1, (hl j hj).2.2.step' s2 (fun g' cur _ hr => by simpa [Value.ownBlock] using own_ne o1 hr (by decide))⟩⟩
theorem BtS.at {g n c : Nat} (h : BtS W b w Y ver (.slice (some ⟨g, 0, none⟩) n c) vb es ss L) {k f : Nat} (hk : k < es.length) (hf : f < 5) : (∃ y, Y.cell? ⟨g, k * 5 + f, none⟩ = some y) ∧ Y.frozen? ⟨g, k * 5 + f, none⟩ = false := by
  obtain ⟨hs, hg, r1, r2, hbb, hI, o1, -⟩ := h
  have hn : n = es.length := by
    rcases o1.2 with ⟨q, -⟩ | ⟨g', c', cur, q, -⟩
    · simp at q
    · injection q
  subst hn
  have := (EnIn.own hI o1).cells k hk
  rw [Nat.zero_add] at this
  obtain ⟨c0, c1, c2, c3, c4⟩ := this
  refine ⟨?_, o1.frozenAt _⟩
  rcases (by omega : f = 0 ∨ f = 1 ∨ f = 2 ∨ f = 3 ∨ f = 4) with rfl | rfl | rfl | rfl | rfl
  · exact ⟨_, c0⟩
  · exact ⟨_, c1⟩
  · exact ⟨_, c2⟩
  · exact ⟨_, c3⟩
  · exact ⟨_, c4⟩
/-- The table that bent returns. -/
theorem BtS.last (h : BtS W b w Y ver va vb es ss L) (h1 : es.length ≤ 41) (h2 : ss.length ≤ 4) (h3 : ∀ s ∈ ss, s.2.length ≤ 3) : ∃ es ss L, TbL b w.heap.size (((Y.setCell ⟨w.heap.size + 1, 0, none⟩ (.int .i64 ver)).setCell ⟨w.heap.size + 1, 1, none⟩ va).setCell ⟨w.heap.size + 1, 2, none⟩ vb) va vb es ss L ∧ es.length ≤ 41 ∧ ss.length ≤ 4 ∧ (∀ s ∈ ss, s.2.length ≤ 3) ∧ Src W b (((Y.setCell ⟨w.heap.size + 1, 0, none⟩ (.int .i64 ver)).setCell ⟨w.heap.size + 1, 1, none⟩ va).setCell ⟨w.heap.size + 1, 2, none⟩ vb) ∧ w.grownBy (((Y.setCell ⟨w.heap.size + 1, 0, none⟩ (.int .i64 ver)).setCell ⟨w.heap.size + 1, 1, none⟩ va).setCell ⟨w.heap.size + 1, 2, none⟩ vb) (some b) := by
  obtain ⟨hs, hg, -, r2, ht⟩ := h
  have hbb := ht.1
  have hW := hs.base
  exact ⟨es, ss, L, ((ht.put r2).put (r2.put 0 _)).put ((r2.put 0 _).put 1 _), h1, h2, h3, src_put (src_put (src_put hs (by omega) (by omega)) (by omega) (by omega)) (by omega) (by omega), gro_set (gro_set (gro_set hg (by omega)) (by omega)) (by omega)⟩
/-- An entry more: first the list, then the table's cell. -/
theorem BtS.appE {va' : Value} (h : BtS W b w Y ver va vb es ss L) (hWw : W.heap.size ≤ w.heap.size) (x : En) (hx : I64 x.1) (ho' : Y'.ownsRow w.heap.size 47 5 va' (es.length + 1) (rowE es ++ encE x)) (hg : Y.grownBy Y' va.ownBlock) :
    Row Y' w.heap.size 25 #[.int .i64 ver, va, vb] ∧ BtS W b w (Y'.setCell ⟨w.heap.size, 1, none⟩ va') ver va' vb (es ++ [x]) ss L := by
  obtain ⟨hs, hgr, r1, r2, hbb, hI, o1, o2, el, hl⟩ := h
  have hW := hs.base
  have r1' := r1.grown hg (own_ne o1 r1 (by decide))
  have r2' := r2.grown hg (own_ne o1 r2 (by decide))
  have ht : TbL b w.heap.size Y' va' vb (es ++ [x]) ss L := ⟨hbb, fun e he => (List.mem_append.1 he).elim (hI e) (fun q => by rw [List.mem_singleton.1 q]; exact hx), by rw [List.length_append, rowE_snoc]; exact ho', o2.kept hg (own_apart o2 o1 (by decide)), el, fun j hj => ⟨(hl j hj).1, (hl j hj).2.1, (hl j hj).2.2.step' hg (fun g' cur _ hr => own_ne o1 hr (by decide))⟩⟩
  exact ⟨r1', src_put (src_own hs hbb hWw o1 hg) (by omega) (by omega), gro_set (gro_own hgr (Nat.le_refl _) o1 hg) (Nat.le_refl _), r1'.put 1 _, r2'.far (p := ⟨w.heap.size, 1, none⟩) (by show w.heap.size ≠ w.heap.size + 1; omega) _, ht.put r1'⟩
/-- A sequence more. -/
theorem BtS.appS {vb' : Value} (h : BtS W b w Y ver va vb es ss L) (hWw : W.heap.size ≤ w.heap.size) {c : Int} {q : Value} {C : List Int} (hc : I64 c) (hq : NmO b Y q C) (ho' : Y'.ownsRow w.heap.size 58 2 vb' (L.length + 1) (rowS L ++ [.int .i64 c, q])) (hg : Y.grownBy Y' vb.ownBlock) :
    Row Y' w.heap.size 25 #[.int .i64 ver, va, vb] ∧ BtS W b w (Y'.setCell ⟨w.heap.size, 2, none⟩ vb') ver va vb' es (ss ++ [(c, C)]) (L ++ [(c, q)]) := by
  obtain ⟨hs, hgr, r1, r2, ht⟩ := h
  have hbb := ht.1
  have o2 := ht.2.2.2.1
  have hW := hs.base
  have r1' := r1.grown hg (own_ne o2 r1 (by decide))
  have r2' := r2.grown hg (own_ne o2 r2 (by decide))
  have ht' := ht.app hc hq ho' hg
  exact ⟨r1', src_put (src_own hs hbb hWw o2 hg) (by omega) (by omega), gro_set (gro_own hgr (Nat.le_refl _) o2 hg) (Nat.le_refl _), r1'.put 2 _, r2'.far (p := ⟨w.heap.size, 2, none⟩) (by show w.heap.size ≠ w.heap.size + 1; omega) _, ht'.put r1'⟩
theorem BtS.els (h : BtS W b w Y ver va vb es ss L) : L.length = ss.length := h.2.2.2.2.2.2.2.2.choose.symm
end
/-- How many entries are wanting to 41. -/
def wants (Y : World) (g : Nat) : Nat := match Y.cell? ⟨g, 1, none⟩ with
  | some (.slice _ n _) => 41 - n
  | _ => 0
theorem wants_row {Y : World} {g n c : Nat} {t : TypeId} {a d : Value} {A : Option Addr} (h : Row Y g t #[a, .slice A n c, d]) : wants Y g = 41 - n := by
  unfold wants
  rw [(row3 h).2.1]
/-- Pick of some constants. -/
theorem pick_const {W Y : World} {b : Nat} (h : Src W b Y) (c : List Int) (n1 : 1 ≤ c.length) (n2 : c.length ≤ 1000) (hc : ∀ x ∈ c, I64 x) :
    Calls Tryd.prog 30 #[.pointer (some ⟨b, 0, none⟩), .slice (some ⟨Y.heap.size, 0, none⟩) c.length c.length] (Y.alloc (.cells (c.map (Value.int .i64)).toArray 3)) (Reads I64 W b (Y.alloc (.cells (c.map (Value.int .i64)).toArray 3))) := by
  have hb : Below Y.heap.size Y (Y.alloc (.cells (c.map (Value.int .i64)).toArray 3)) := (Below.refl _ _).alloc (Nat.le_refl _) _
  have rr := Row.new Y (c.map (Value.int .i64)).toArray 3
  have hbl := src_lt h
  exact pick_any I64 W b _ Y.heap.size c.length c.length (h.under hb) n1 n2 (by omega) rr.lt (fun i hi => ⟨c[i], by rw [rr.cell]; simp [hi], hc _ (List.getElem_mem hi)⟩)
end Go.Proofs.YtjaopjhfjijdaaaDoor
