/- More on what data.Table holds. -/
import Derived.Test.YtjaopjhfjijdaaaDoorDa
namespace Go.Proofs.YtjaopjhfjijdaaaDoor
open Go.RowKit

/-- A sequence that is made: its box gq, its codes in memory of their own since the world Y0. -/
def Dq (W : World) (b : Nat) (Y0 : World) (gq : Nat) (c : Int) (C : List Int) (v : Value) (Y : World) : Prop :=
  Src W b Y ∧ Y0.grownBy Y (some b) ∧ Y0.heap.size ≤ gq ∧ b < Y0.heap.size ∧ (∀ x ∈ C, cdP x) ∧ Row Y gq 58 #[.int .i64 c, v] ∧ Y.ownsRow Y0.heap.size 3 1 v C.length (C.map (Value.int .i64))
section
variable {W w Y0 Y Y' : World} {b g4 g5 gq : Nat} {c ver : Int} {C : List Int} {v u : Value} {es : List En} {L : List (Int × Value)} {P Q : Nat → Nat → Prop}
theorem Dq.start (hs : Src W b Y0) (c : Int) : Dq W b Y0 Y0.heap.size c [] (.slice none 0 0) (Y0.alloc (.cells #[.int .i64 c, .slice none 0 0] 58)) := by
  have hb := (Below.refl Y0.heap.size Y0).alloc (Nat.le_refl _) (.cells #[.int .i64 c, .slice none 0 0] 58)
  refine ⟨hs.under hb, grown_below hb, Nat.le_refl _, ?_, fun x hx => absurd hx List.not_mem_nil, Row.new _ _ _, World.ownsRow_nil _ _ _ _⟩
  obtain ⟨_, _, _, _, _, _, h3, _⟩ := hs.row
  exact (Array.getElem?_eq_some_iff.1 h3).1
theorem Dq.step (h : Dq W b Y0 gq c C v Y) (hs : Src W b Y') (hg : Y.grownBy Y' (some b)) : Dq W b Y0 gq c C v Y' := by
  obtain ⟨h1, h2, h3, h4, h5, h6, h7⟩ := h
  exact ⟨hs, grown_trans h2 hg, h3, h4, h5, h6.grown hg (fun q => by injection q; omega), h7.kept hg (.inr (fun q => by have := (h7.lt b q).1; omega))⟩
theorem Dq.under (h : Dq W b Y0 gq c C v Y) (hb : Below Y.heap.size Y Y') : Dq W b Y0 gq c C v Y' := h.step (h.1.under hb) (grown_below hb)
theorem Dq.app (h : Dq W b Y0 gq c C v Y) {y : Int} (hy : cdP y) {v' : Value} (ho' : Y'.ownsRow Y0.heap.size 3 1 v' (C.length + 1) (C.map (Value.int .i64) ++ [y].map (Value.int .i64))) (hg : Y.grownBy Y' v.ownBlock) :
    Dq W b Y0 gq c (C ++ [y]) v' (Y'.setCell ⟨gq, 1, none⟩ v') ∧ Row Y' gq 58 #[.int .i64 c, v] := by
  obtain ⟨h1, h2, h3, h4, h5, h6, h7⟩ := h
  have r := h6.grown hg (own_ne h7 h6 (by decide))
  have hne := own_ne ho' r (by decide)
  have hb := h1.base
  have hW := h1.below.size
  have hW0 : W.heap.size ≤ Y0.heap.size := by omega
  refine ⟨⟨src_put (src_own h1 h4 hW0 h7 hg) (by omega) (by omega), gro_set (gro_own h2 (Nat.le_refl _) h7 hg) h3, h3, h4, fun x hx => ?_, r.put 1 _, ?_⟩, r⟩
  · rcases List.mem_append.1 hx with hx | hx
    · exact h5 x hx
    · rw [List.mem_singleton.1 hx]; exact hy
  · rw [List.length_append, List.length_singleton, List.map_append]
    refine ho'.kept grown_put ?_
    cases hv : v'.ownBlock
    · exact .inl rfl
    · exact .inr (fun q => hne (by rw [hv, ← q]))
theorem Dq.inn (h : Dq W b Y0 gq c C v Y) (hl : C.length ≤ 3) (hw : w.heap.size ≤ Y0.heap.size) : Inn w Y v (fun _ => False) := Inn.own h.2.2.2.2.1 hl h.2.2.2.2.2.2 hw
theorem two_at {g : Nat} {t : TypeId} {x y : Value} (h : Row Y g t #[x, y]) : ∀ (j : Nat) (z : Value), [x, y][j]? = some z → Y.cell? ((⟨g, 0, none⟩ : Addr).add j) = some z := by
  intro j z hz
  rw [Addr.add_lit, Nat.zero_add]
  match j, hz with
  | 0, hz => rw [h.cell]; simpa using hz
  | 1, hz => rw [h.cell]; simpa using hz
  | j + 2, hz => simp at hz
theorem Dt.weak (h : Dt W w b g4 g5 ver es L P Y) (hq : ∀ j k, j < L.length → Q j k → P j k) : Dt W w b g4 g5 ver es L Q Y :=
  ⟨h.src, h.gro, h.bl, h.l4, h.l5, h.n45, h.r4, h.row, fun j hj => (h.inn j hj).weak (fun k => hq j k hj)⟩
theorem row_same {g : Nat} {t t' : TypeId} {cs cs' : Array Value} (h : Row Y g t cs) (h' : Row Y g t' cs') : cs = cs' := by
  unfold Row at h h'
  rw [h] at h'
  injection h' with h'
  injection h' with h' _
theorem Inn.mark {g n cap k : Nat} {cur : Array Value} {x : Int} {P : Nat → Prop} (h : Inn w Y (.slice (some ⟨g, 0, none⟩) n cap) P) (hr : Row Y g 3 cur) (hx : cur[k]? = some (.int .i64 x)) (hk : knd x ≠ 0) : Inn w Y (.slice (some ⟨g, 0, none⟩) n cap) (fun m => P m ∨ m = k) := by
  obtain ⟨n', h3, h⟩ := h
  refine ⟨n', h3, ?_⟩
  rcases h with ⟨q, -⟩ | ⟨g', cap', cur', a, b, c, d, e, f⟩
  · cases q
  · injection a with a1 a2 a3
    injection a1 with a1
    injection a1 with a1
    subst a1; subst a2; subst a3
    obtain rfl := row_same e hr
    refine .inr ⟨g, cap, _, rfl, b, c, d, e, fun m hm => ?_⟩
    obtain ⟨y, x1, x2, x3⟩ := f m hm
    refine ⟨y, x1, x2, fun pm => ?_⟩
    rcases pm with pm | rfl
    · exact x3 pm
    · rw [hx] at x1
      injection x1 with x1
      injection x1 with _ x1
      exact x1 ▸ hk
theorem Dt.mark {i g n cap k : Nat} {cur : Array Value} {x : Int} (h : Dt W w b g4 g5 ver es L P Y) (hi : i < L.length) (hv : (L[i]).2 = .slice (some ⟨g, 0, none⟩) n cap) (hr : Row Y g 3 cur) (hx : cur[k]? = some (.int .i64 x)) (hk : knd x ≠ 0) :
    Dt W w b g4 g5 ver es L (fun j m => P j m ∨ (j = i ∧ m = k)) Y := by
  refine ⟨h.src, h.gro, h.bl, h.l4, h.l5, h.n45, h.r4, h.row, fun j hj => ?_⟩
  by_cases e : j = i
  · subst e
    have := h.inn j hj
    rw [hv] at this ⊢
    exact (this.mark hr hx hk).weak (fun m q => q.imp id (fun q => q.2))
  · exact (h.inn j hj).weak (fun m q => q.resolve_right (fun q => e q.1))
theorem Dt.put {i g n cap k : Nat} {cur : Array Value} (h : Dt W w b g4 g5 ver es L P Y) (hi : i < L.length) (hv : (L[i]).2 = .slice (some ⟨g, 0, none⟩) n cap) (hr : Row Y g 3 cur) (hg : w.heap.size ≤ g) :
    Dt W w b g4 g5 ver es L (fun j m => P j m ∨ (j = i ∧ m = k)) (Y.setCell ⟨g, k, none⟩ (.int .i64 100)) := by
  have bl := h.bl
  have hW := h.src.base
  obtain ⟨v, u, r, o1, o2⟩ := h.row
  have n4 := row_ne hr h.r4 (by decide)
  have n5 := row_ne hr r (by decide)
  have e1 := own_ne o1 hr (by decide)
  have e2 := own_ne o2 hr (by decide)
  refine ⟨src_put h.src (by omega) (by omega), gro_set h.gro hg, bl, h.l4, h.l5, h.n45, h.r4.far (p := ⟨g, k, none⟩) n4 _, ⟨v, u, r.far (p := ⟨g, k, none⟩) n5 _, o1.kept grown_put (.inr (Ne.symm e1)), o2.kept grown_put (.inr (Ne.symm e2))⟩, fun j hj => ?_⟩
  by_cases e : j = i
  · subst e
    have := h.inn j hj
    rw [hv] at this ⊢
    exact (this.put_at hr).weak (fun m q => q.imp id (fun q => q.2))
  · exact ((h.inn j hj).put hr).weak (fun m q => q.resolve_right (fun q => e q.1))
theorem dt_done {i n cap : Nat} {A : Option Addr} {kk : Nat} (h : Dt W w b g4 g5 ver es L (fun j m => j < i ∨ (j = i ∧ m < kk)) Y) (hi : i < L.length) (hv : (L[i]).2 = .slice A n cap) (hk : n ≤ kk) : Dt W w b g4 g5 ver es L (fun j _ => j < i + 1) Y := by
  refine ⟨h.src, h.gro, h.bl, h.l4, h.l5, h.n45, h.r4, h.row, fun j hj => ?_⟩
  by_cases e : j = i
  · subst e
    obtain ⟨n', h3, h⟩ := h.inn j hj
    refine ⟨n', h3, h.imp id (fun ⟨g, cap', cur, a, b, c, d, e, f⟩ => ⟨g, cap', cur, a, b, c, d, e, fun m hm => ?_⟩)⟩
    rw [hv] at a
    injection a with _ a _
    obtain ⟨x, x1, x2, x3⟩ := f m hm
    exact ⟨x, x1, x2, fun _ => x3 (.inr ⟨rfl, by omega⟩)⟩
  · exact (h.inn j hj).weak (fun m q => .inl (by omega))
end
/-- The entries and the sequences that Table makes. -/
def EsP (es : List En) : Prop := ∀ i (h : i < es.length), (es[i]).1 = 100 * ((i : Int) + 1) ∧ okE es[i]
def LsP (L : List (Int × Value)) : Prop := L.length ≤ 3 ∧ ∀ i (h : i < L.length), (L[i]).1 = 10000 + (i : Int)
def SsP (ss : List Sq) : Prop := ss.length ≤ 3 ∧ ∀ i (h : i < ss.length), (ss[i]).1 = 10000 + (i : Int) ∧ (ss[i]).2.length ≤ 3 ∧ ∀ c ∈ (ss[i]).2, knd c ≠ 0
/-- A table of one's own: the rows of its entries and of its sequences, and the codes of these, none of which a reader's block holds. -/
def TbL (b base : Nat) (Y : World) (va vb : Value) (es : List En) (ss : List Sq) (L : List (Int × Value)) : Prop :=
  b < base ∧ (∀ e ∈ es, I64 e.1) ∧ Y.ownsRow base 47 5 va es.length (rowE es) ∧ Y.ownsRow base 58 2 vb L.length (rowS L) ∧ ∃ e : ss.length = L.length, ∀ j (h : j < L.length), (ss[j]'(e ▸ h)).1 = (L[j]).1 ∧ I64 (L[j]).1 ∧ NmO b Y (L[j]).2 (ss[j]'(e ▸ h)).2
theorem TbL.step {b base : Nat} {Y Y' : World} {va vb : Value} {es : List En} {ss : List Sq} {L : List (Int × Value)} (h : TbL b base Y va vb es ss L) (hg : Y.grownBy Y' (some b)) : TbL b base Y' va vb es ss L := by
  obtain ⟨hb, hI, o1, o2, el, hs⟩ := h
  exact ⟨hb, hI, o1.kept hg (.inr (fun q => by have := (o1.lt b q).1; omega)), o2.kept hg (.inr (fun q => by have := (o2.lt b q).1; omega)), el, fun j hj => ⟨(hs j hj).1, (hs j hj).2.1, (hs j hj).2.2.step hg⟩⟩
theorem TbL.under {b base : Nat} {Y Y' : World} {va vb : Value} {es : List En} {ss : List Sq} {L : List (Int × Value)} (h : TbL b base Y va vb es ss L) (hb : Below Y.heap.size Y Y') : TbL b base Y' va vb es ss L := h.step (grown_below hb)
/-- A sequence more. -/
theorem TbL.app {b base : Nat} {Y Y' : World} {va vb vb' : Value} {es : List En} {ss : List Sq} {L : List (Int × Value)} (h : TbL b base Y va vb es ss L) {c : Int} {q : Value} {C : List Int} (hc : I64 c) (hq : NmO b Y q C)
    (ho' : Y'.ownsRow base 58 2 vb' (L.length + 1) (rowS L ++ [.int .i64 c, q])) (hg : Y.grownBy Y' vb.ownBlock) : TbL b base Y' va vb' es (ss ++ [(c, C)]) (L ++ [(c, q)]) := by
  obtain ⟨hb, hI, o1, o2, el, hs⟩ := h
  have hr : ∀ g cur, g ≠ b → Row Y g 3 cur → some g ≠ vb.ownBlock := fun g cur _ r => own_ne o2 r (by decide)
  refine ⟨hb, hI, o1.kept hg (own_apart o1 o2 (by decide)), by rw [List.length_append, rowS_snoc]; exact ho', by rw [List.length_append, List.length_append, el]; rfl, fun j hj => ?_⟩
  rw [List.length_append, List.length_singleton] at hj
  by_cases e : j < L.length
  · have e' : j < ss.length := by omega
    obtain ⟨a1, a2, a3⟩ := hs j e
    rw [List.getElem_append_left e', List.getElem_append_left e]
    exact ⟨a1, a2, a3.step' hg hr⟩
  · obtain rfl : j = L.length := by omega
    rw [List.getElem_append_right (by omega), List.getElem_append_right (by omega)]
    simp only [el, Nat.sub_self, List.getElem_singleton]
    exact ⟨trivial, hc, hq.step' hg hr⟩
def TbO (b base : Nat) (Y : World) (t : Value) (ver : Int) (es : List En) (ss : List Sq) : Prop := ∃ v u, ∃ L : List (Int × Value), t = .agg #[.int .i64 ver, v, u] ∧ TbL b base Y v u es ss L
theorem TbO.step {b base : Nat} {Y Y' : World} {t : Value} {ver : Int} {es : List En} {ss : List Sq} (h : TbO b base Y t ver es ss) (hg : Y.grownBy Y' (some b)) : TbO b base Y' t ver es ss := by
  obtain ⟨v, u, L, e, h⟩ := h
  exact ⟨v, u, L, e, h.step hg⟩
theorem TbO.under {b base : Nat} {Y Y' : World} {t : Value} {ver : Int} {es : List En} {ss : List Sq} (h : TbO b base Y t ver es ss) (hb : Below Y.heap.size Y Y') : TbO b base Y' t ver es ss := h.step (grown_below hb)
theorem sq_of {b base : Nat} {Y : World} {u : Value} {L : List (Int × Value)} {ss : List Sq} (o2 : Y.ownsRow base 58 2 u L.length (rowS L)) (el : ss.length = L.length) (hs : ∀ j (h : j < L.length), (ss[j]'(el ▸ h)).1 = (L[j]).1 ∧ I64 (L[j]).1 ∧ NmO b Y (L[j]).2 (ss[j]'(el ▸ h)).2) : SqIn Y u ss := by
  rcases o2.2 with ⟨q, h0⟩ | ⟨g, cap, cur, q, _, _, hle, hmax, _⟩
  · have hL : ss = [] := List.eq_nil_of_length_eq_zero (by omega)
    subst q
    rw [hL]
    exact SqIn.nil _
  · subst q
    have hlt := (o2.lt g rfl).2
    refine ⟨some ⟨g, 0, none⟩, cap, by rw [el], by omega, by unfold maxLen at hmax; omega, fun i hi => ?_⟩
    have hi' : i < L.length := by omega
    obtain ⟨a1, a2, a3⟩ := hs i hi'
    refine ⟨g, 0, (L[i]).2, rfl, hlt, ?_, ?_, a3.1, ?_⟩
    · rw [Nat.zero_add, o2.cellAt (i * 2) (by omega), (rowS_at L i hi').1, a1]
    · rw [Nat.zero_add, o2.cellAt (i * 2 + 1) (by omega), (rowS_at L i hi').2]
    · rw [a1]; exact a2
theorem TbL.tb {b base : Nat} {Y : World} {va vb : Value} {ver : Int} {es : List En} {ss : List Sq} {L : List (Int × Value)} (h : TbL b base Y va vb es ss L) : TbIn Y (.agg #[.int .i64 ver, va, vb]) ver es ss := by
  obtain ⟨hb, hI, o1, o2, el, hs⟩ := h
  exact ⟨va, vb, rfl, EnIn.own hI o1, sq_of o2 el hs⟩
theorem TbO.tb {b base : Nat} {Y : World} {t : Value} {ver : Int} {es : List En} {ss : List Sq} (h : TbO b base Y t ver es ss) : TbIn Y t ver es ss := by
  obtain ⟨v, u, L, e, h⟩ := h
  subst e
  exact h.tb
theorem seqs_of {w Y : World} {b : Nat} (hb : b < w.heap.size) : ∀ (L : List (Int × Value)), (∀ j (h : j < L.length), Inn w Y (L[j]).2 (fun _ => True)) → ∃ ss : List Sq, ∃ e : ss.length = L.length, ∀ j (h : j < L.length), (ss[j]'(e ▸ h)).1 = (L[j]).1 ∧ NmO b Y (L[j]).2 (ss[j]'(e ▸ h)).2 ∧ (ss[j]'(e ▸ h)).2.length ≤ 3 ∧ ∀ c ∈ (ss[j]'(e ▸ h)).2, knd c ≠ 0
  | [], _ => ⟨[], rfl, fun j h => absurd h (Nat.not_lt_zero _)⟩
  | p :: r, h => by
    obtain ⟨ss, e, hs⟩ := seqs_of hb r (fun j hj => h (j + 1) (by simpa using hj))
    have h0 := h 0 (by simp)
    obtain ⟨C, h1, h2, h3⟩ := h0.nm (fun _ => trivial)
    refine ⟨(p.1, C) :: ss, by simp [e], fun j hj => ?_⟩
    cases j with
    | zero =>
      refine ⟨rfl, ⟨h1, fun g off n c q => ?_⟩, h2, h3⟩
      obtain ⟨n', -, ⟨q', -⟩ | ⟨g', cap, cur, q', -, -, hg, hrow, -⟩⟩ := h0
      · rw [show (p :: r)[0].2 = p.2 from rfl] at q'
        rw [show (p :: r)[0].2 = p.2 from rfl] at q
        rw [q'] at q; cases q
      · rw [show (p :: r)[0].2 = p.2 from rfl] at q'
        rw [show (p :: r)[0].2 = p.2 from rfl] at q
        rw [q'] at q
        injection q with q
        injection q with q
        injection q with q
        subst q
        exact ⟨by omega, cur, hrow⟩
    | succ j => exact hs j (by simpa using hj)
theorem Dt.final {W w Y : World} {b g4 g5 : Nat} {ver : Int} {es : List En} {L : List (Int × Value)} (h : Dt W w b g4 g5 ver es L (fun j _ => j < L.length) Y) {v u : Value} (_hr : Row Y g5 25 #[.int .i64 ver, v, u]) (ho : Y.ownsRow w.heap.size 47 5 v es.length (rowE es)) (hu : Y.ownsRow w.heap.size 58 2 u L.length (rowS L)) (he : EsP es) (hl : LsP L) :
    Row (((Y.setCell ⟨g4, 0, none⟩ (.int .i64 ver)).setCell ⟨g4, 1, none⟩ v).setCell ⟨g4, 2, none⟩ u) g4 25 #[.int .i64 ver, v, u] ∧ ∃ ss, TbO b w.heap.size (((Y.setCell ⟨g4, 0, none⟩ (.int .i64 ver)).setCell ⟨g4, 1, none⟩ v).setCell ⟨g4, 2, none⟩ u) (.agg #[.int .i64 ver, v, u]) ver es ss ∧ SsP ss ∧ Src W b (((Y.setCell ⟨g4, 0, none⟩ (.int .i64 ver)).setCell ⟨g4, 1, none⟩ v).setCell ⟨g4, 2, none⟩ u) ∧ w.grownBy (((Y.setCell ⟨g4, 0, none⟩ (.int .i64 ver)).setCell ⟨g4, 1, none⟩ v).setCell ⟨g4, 2, none⟩ u) (some b) := by
  have bl := h.bl
  have l4 := h.l4
  have hW := h.src.base
  have hg : Y.grownBy (((Y.setCell ⟨g4, 0, none⟩ (.int .i64 ver)).setCell ⟨g4, 1, none⟩ v).setCell ⟨g4, 2, none⟩ u) (some g4) := grown_trans (grown_trans grown_put grown_put) grown_put
  have e1 := own_ne ho h.r4 (by decide)
  have e2 := own_ne hu h.r4 (by decide)
  have o1 := ho.kept hg (.inr (Ne.symm e1))
  have o2 := hu.kept hg (.inr (Ne.symm e2))
  have r0 := h.r4.put 0 (.int .i64 ver)
  have r1 := r0.put 1 v
  refine ⟨r1.put 2 u, ?_⟩
  obtain ⟨ss, e, hs⟩ := seqs_of (w := w) (b := b) (Y := (((Y.setCell ⟨g4, 0, none⟩ (.int .i64 ver)).setCell ⟨g4, 1, none⟩ v).setCell ⟨g4, 2, none⟩ u)) bl L (fun j hj => ((h.inn j hj).weak (fun _ _ => hj)).step hg (fun g cur _ hr' q => by injection q with q; exact row_ne hr' h.r4 (by decide) q))
  refine ⟨ss, ⟨v, u, L, rfl, bl, fun x hx => ?_, o1, o2, e, fun j hj => ⟨(hs j hj).1, ?_, (hs j hj).2.1⟩⟩, ⟨by have := hl.1; omega, fun i hi => ?_⟩, src_put (src_put (src_put h.src (by omega) (by omega)) (by omega) (by omega)) (by omega) (by omega), gro_set (gro_set (gro_set h.gro l4) l4) l4⟩
  · obtain ⟨i, hi, rfl⟩ := List.getElem_of_mem hx
    have := knd_1.1 (he i hi).2.2.1
    exact ⟨by omega, by omega⟩
  · rw [hl.2 j hj]
    exact ⟨by omega, by have := hl.1; omega⟩
  · have hi' : i < L.length := by omega
    obtain ⟨a1, a2, a3, a4⟩ := hs i hi'
    exact ⟨by rw [a1, hl.2 i hi'], a3, a4⟩
end Go.Proofs.YtjaopjhfjijdaaaDoor
