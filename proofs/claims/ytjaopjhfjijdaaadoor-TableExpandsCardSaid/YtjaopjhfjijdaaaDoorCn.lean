/- The contract of clone. -/
import Derived.Test.YtjaopjhfjijdaaaDoorCl
namespace Go.Proofs.YtjaopjhfjijdaaaDoor
open Go.RowKit

/-- A list of numbers that lies below n0, or in a row of numbers. -/
def NmW (n0 : Nat) (Y : World) (u : Value) (C : List Int) : Prop := ∃ B c, u = .slice B C.length c ∧ NmIn Y u C ∧ (0 < C.length → ∀ g off, B = some ⟨g, off, none⟩ → g < n0 ∨ ∃ cur, Row Y g 3 cur)
theorem NmW.step {n0 : Nat} {Y Y' : World} {u : Value} {C : List Int} (h : NmW n0 Y u C) {r : Option Nat} (hg : Y.grownBy Y' r) (h0 : ∀ g, g < n0 → some g ≠ r) (hr : ∀ g cur, Row Y g 3 cur → some g ≠ r) : NmW n0 Y' u C := by
  obtain ⟨B, c, e, ⟨A, cap, h1, h2, h3, h4⟩, ho⟩ := h
  have hn : 0 < C.length → ∀ g off, B = some ⟨g, off, none⟩ → some g ≠ r := fun hp g off q => (ho hp g off q).elim (h0 g) (fun ⟨cur, q⟩ => hr g cur q)
  refine ⟨B, c, e, ⟨A, cap, h1, h2, h3, fun i hi => ?_⟩, fun hp g off q => (ho hp g off q).imp id (fun ⟨cur, z⟩ => ⟨cur, z.grown hg (hn hp g off q)⟩)⟩
  obtain ⟨g, off, a, l, c', d⟩ := h4 i hi
  have eB : B = A := by rw [h1] at e; injection e with e _ _; exact e.symm
  exact ⟨g, off, a, Nat.lt_of_lt_of_le l hg.size, (World.cell?_of_block (hg.block g l (hn (by omega) g off (eB.trans a)))).trans c', d⟩
theorem NmW.under {n0 : Nat} {Y Y' : World} {u : Value} {C : List Int} (h : NmW n0 Y u C) (hb : Below Y.heap.size Y Y') : NmW n0 Y' u C := h.step (r := none) (grown_below hb) (fun _ _ q => by cases q) (fun _ _ _ q => by cases q)
/-- The sequences of a table that is being cloned: the first k have lists of their own. -/
def SsW (w0 Y : World) (k : Nat) (ss : List Sq) (L : List (Int × Value)) : Prop := ∃ e : ss.length = L.length, ∀ j (h : j < L.length), (ss[j]'(e ▸ h)).1 = (L[j]).1 ∧ I64 (L[j]).1 ∧ NmW (if j < k then 0 else w0.heap.size) Y (L[j]).2 (ss[j]'(e ▸ h)).2
theorem SsW.under {w0 Y Y' : World} {k : Nat} {ss : List Sq} {L : List (Int × Value)} (h : SsW w0 Y k ss L) (hb : Below Y.heap.size Y Y') : SsW w0 Y' k ss L := ⟨h.choose, fun j hj => ⟨(h.choose_spec j hj).1, (h.choose_spec j hj).2.1, (h.choose_spec j hj).2.2.under hb⟩⟩
theorem if_lt {p : Prop} [Decidable p] {a g : Nat} (h : g < if p then 0 else a) : g < a := by
  split at h
  · omega
  · exact h
theorem sv_of {w : World} {A : Option Addr} {n c : Nat} {ss : List Sq} (h : SqIn w (.slice A n c) ss) : ∃ L, SvIn w (.slice A n c) L ∧ SsW w w 0 ss L := by
  obtain ⟨A', cap, e, h2, h3, h4⟩ := h
  injection e with e1 e2 e3
  subst e1; subst e2; subst e3
  have hx : ∀ i, ∃ u : Value, ∀ hi : i < ss.length, ∃ g off, A = some ⟨g, off, none⟩ ∧ g < w.heap.size ∧ w.cell? ⟨g, off + i * 2, none⟩ = some (.int .i64 (ss[i]).1) ∧ w.cell? ⟨g, off + i * 2 + 1, none⟩ = some u ∧ NmIn w u (ss[i]).2 ∧ I64 (ss[i]).1 := fun i => by
    by_cases hi : i < ss.length
    · obtain ⟨g, off, u, a, b, c, d, e, f⟩ := h4 i hi
      exact ⟨u, fun _ => ⟨g, off, a, b, c, d, e, f⟩⟩
    · exact ⟨.bool true, fun q => absurd q hi⟩
  obtain ⟨U, hU⟩ : ∃ U : Nat → Value, ∀ i (hi : i < ss.length), ∃ g off, A = some ⟨g, off, none⟩ ∧ g < w.heap.size ∧ w.cell? ⟨g, off + i * 2, none⟩ = some (.int .i64 (ss[i]).1) ∧ w.cell? ⟨g, off + i * 2 + 1, none⟩ = some (U i) ∧ NmIn w (U i) (ss[i]).2 ∧ I64 (ss[i]).1 := ⟨fun i => Classical.choose (hx i), fun i => Classical.choose_spec (hx i)⟩
  refine ⟨(List.range ss.length).map (fun i => ((ss[i]?.map (·.1)).getD 0, U i)), ⟨A, c, by simp, by simpa using h2, h3, fun i hi => ?_⟩, by simp, fun j hj => ?_⟩
  · have hi' : i < ss.length := by simpa using hi
    obtain ⟨g, off, a, b, c, d, e, f⟩ := hU i hi'
    obtain ⟨B, cc, eu, -⟩ := id e
    refine ⟨g, off, a, b, ?_, ?_, ?_⟩
    · simpa [hi'] using c
    · simpa using d
    · simp [eu]; rfl
  · have hi' : j < ss.length := by simpa using hj
    obtain ⟨g, off, a, b, c, d, e, f⟩ := hU j hi'
    obtain ⟨B, cc, eu, -, -, hcell⟩ := id e
    refine ⟨by simp [hi'], by simpa [hi'] using f, B, cc, by simpa using eu, by simpa using e, fun hp g' off' q => .inl ?_⟩
    rw [eu] at e
    obtain ⟨A2, c2, e2, -, -, h5⟩ := e
    injection e2 with e2
    subst e2
    obtain ⟨g3, off3, e3, hlt, -⟩ := h5 0 (by simpa [hi'] using hp)
    rw [q] at e3
    injection e3 with e3
    injection e3 with e3
    subst e3
    exact hlt
theorem rowS_set : ∀ (L : List (Int × Value)) (k : Nat) (hk : k < L.length) (u : Value), rowS (L.set k ((L[k]).1, u)) = (rowS L).set (k * 2 + 1) u
  | x :: r, 0, _, u => rfl
  | x :: r, k + 1, hk, u => by
    have := rowS_set r k (by simpa using hk) u
    have e : rowS (x :: r) = .int .i64 x.1 :: x.2 :: rowS r := rfl
    rw [e, show (k + 1) * 2 + 1 = (k * 2 + 1) + 1 + 1 by omega]
    show .int .i64 x.1 :: x.2 :: rowS (r.set k ((r[k]'(by simpa using hk)).1, u)) = .int .i64 x.1 :: x.2 :: (rowS r).set (k * 2 + 1) u
    rw [this]
theorem own_base {Y : World} {base base' size n : Nat} {e : TypeId} {v : Value} {xs : List Value} (h : Y.ownsRow base e size v n xs) (hb : base' ≤ base) : Y.ownsRow base' e size v n xs := by
  refine ⟨h.1, h.2.imp id fun ⟨g, cap, cur, a, b, c⟩ => ⟨g, cap, cur, a, by omega, c⟩⟩
theorem sq_ofW {w Y : World} {K : Nat} {u : Value} {ss : List Sq} {L : List (Int × Value)} {base : Nat} (o2 : Y.ownsRow base 58 2 u ss.length (rowS L)) (hs : SsW w Y K ss L) : SqIn Y u ss := by
  obtain ⟨el, hs⟩ := hs
  rcases o2.2 with ⟨q, h0⟩ | ⟨g, cap, cur, q, _, _, hle, hmax, _⟩
  · have hL : ss = [] := List.eq_nil_of_length_eq_zero h0
    subst q
    rw [hL]
    exact SqIn.nil _
  · subst q
    have hlt := (o2.lt g rfl).2
    refine ⟨some ⟨g, 0, none⟩, cap, rfl, hle, by unfold maxLen at hmax; omega, fun i hi => ?_⟩
    have hi' : i < L.length := by omega
    obtain ⟨a1, a2, B, c, a3, a4, -⟩ := hs i hi'
    refine ⟨g, 0, (L[i]).2, rfl, hlt, ?_, ?_, a4, ?_⟩
    · rw [Nat.zero_add, o2.cellAt (i * 2) (by omega), (rowS_at L i hi').1, a1]
    · rw [Nat.zero_add, o2.cellAt (i * 2 + 1) (by omega), (rowS_at L i hi').2]
    · rw [a1]; exact a2
theorem ents_i64 {w : World} {v : Value} {D : List En} (h : EnIn w v D) : ∀ x ∈ D, I64 x.1 := fun x hx => by
  obtain ⟨A, cap, -, -, -, h4⟩ := h
  obtain ⟨i, hi, rfl⟩ := List.getElem_of_mem hx
  obtain ⟨g, off, -, -, -, h⟩ := h4 i hi
  exact h
theorem clone_end {w0 Y : World} {gz base : Nat} {v : Int} {vE vS : Value} {es : List En} {ss : List Sq} {L : List (Int × Value)} {u0 u1 u2 : Value} {cs : Array Value} (hI : ∀ x ∈ es, I64 x.1) (r2 : Row Y gz 25 cs) (o1 : Y.ownsRow base 47 5 vE es.length (rowE es)) (o2 : Y.ownsRow base 58 2 vS ss.length (rowS L)) (hs : SsW w0 Y ss.length ss L) :
    (((Y.setCell ⟨gz, 0, none⟩ u0).setCell ⟨gz, 1, none⟩ u1).setCell ⟨gz, 2, none⟩ u2).ownsRow base 47 5 vE es.length (rowE es) ∧ (((Y.setCell ⟨gz, 0, none⟩ u0).setCell ⟨gz, 1, none⟩ u1).setCell ⟨gz, 2, none⟩ u2).ownsRow base 58 2 vS ss.length (rowS L) ∧ SsW w0 (((Y.setCell ⟨gz, 0, none⟩ u0).setCell ⟨gz, 1, none⟩ u1).setCell ⟨gz, 2, none⟩ u2) ss.length ss L ∧
    TbIn (((Y.setCell ⟨gz, 0, none⟩ u0).setCell ⟨gz, 1, none⟩ u1).setCell ⟨gz, 2, none⟩ u2) (.agg #[.int .i64 v, vE, vS]) v es ss := by
  have hg : Y.grownBy (((Y.setCell ⟨gz, 0, none⟩ u0).setCell ⟨gz, 1, none⟩ u1).setCell ⟨gz, 2, none⟩ u2) (some gz) := grown_trans (grown_trans grown_put grown_put) grown_put
  have p1 := o1.kept hg (.inr (Ne.symm (own_ne o1 r2 (by decide))))
  have p2 := o2.kept hg (.inr (Ne.symm (own_ne o2 r2 (by decide))))
  have p3 : SsW w0 (((Y.setCell ⟨gz, 0, none⟩ u0).setCell ⟨gz, 1, none⟩ u1).setCell ⟨gz, 2, none⟩ u2) ss.length ss L := ⟨hs.choose, fun j hj => ⟨(hs.choose_spec j hj).1, (hs.choose_spec j hj).2.1, (hs.choose_spec j hj).2.2.step hg (fun g hg => by rw [if_pos (by have := hs.choose; omega)] at hg; omega) (fun g cur r q => by injection q with q; exact row_ne r r2 (by decide) q)⟩⟩
  exact ⟨p1, p2, p3, vE, vS, rfl, EnIn.own hI p1, sq_ofW p2 p3⟩
theorem clone_put {w Y : World} {v : Int} {vE : Value} {es : List En} {ss : List Sq} {L : List (Int × Value)} {gs cs k base : Nat} {vc : Value} (h : ((Row Y w.heap.size 25 #[.int .i64 v, vE, .slice (some ⟨gs, 0, none⟩) ss.length cs] ∧ Row Y (w.heap.size + 1) 25 #[.int .i64 0, .slice none 0 0, .slice none 0 0] ∧ Below w.heap.size w Y) ∧ Y.ownsRow w.heap.size 47 5 vE es.length (rowE es) ∧ Y.ownsRow w.heap.size 58 2 (.slice (some ⟨gs, 0, none⟩) ss.length cs) ss.length (rowS L) ∧ SsW w Y k ss L)) (hk : k < L.length) (hk' : k < ss.length) (ho : Y.ownsRow base 3 1 vc (ss[k]).2.length ((ss[k]).2.map (Value.int .i64))) :
    ((Row (Y.setCell ⟨gs, k * 2 + 1, none⟩ vc) w.heap.size 25 #[.int .i64 v, vE, .slice (some ⟨gs, 0, none⟩) ss.length cs] ∧ Row (Y.setCell ⟨gs, k * 2 + 1, none⟩ vc) (w.heap.size + 1) 25 #[.int .i64 0, .slice none 0 0, .slice none 0 0] ∧ Below w.heap.size w (Y.setCell ⟨gs, k * 2 + 1, none⟩ vc)) ∧ (Y.setCell ⟨gs, k * 2 + 1, none⟩ vc).ownsRow w.heap.size 47 5 vE es.length (rowE es) ∧ (Y.setCell ⟨gs, k * 2 + 1, none⟩ vc).ownsRow w.heap.size 58 2 (.slice (some ⟨gs, 0, none⟩) ss.length cs) ss.length (rowS (L.set k ((L[k]).1, vc))) ∧ SsW w (Y.setCell ⟨gs, k * 2 + 1, none⟩ vc) (k + 1) ss (L.set k ((L[k]).1, vc))) := by
  obtain ⟨⟨r1, r2, b⟩, o1, o2, el, hs⟩ := h
  have hst := o2.stored (k * 2 + 1) vc
  have n1 : gs ≠ w.heap.size := fun q => own_ne o2 r1 (by decide) (by rw [q]; rfl)
  have n2 : gs ≠ w.heap.size + 1 := fun q => own_ne o2 r2 (by decide) (by rw [q]; rfl)
  have hgs : w.heap.size ≤ gs := (o2.lt gs rfl).1
  refine ⟨⟨r1.far (p := ⟨gs, k * 2 + 1, none⟩) n1 _, r2.far (p := ⟨gs, k * 2 + 1, none⟩) n2 _, b.setCell (p := ⟨gs, k * 2 + 1, none⟩) hgs _⟩, o1.kept hst.2 (own_apart o1 o2 (by decide)), by rw [rowS_set L k hk]; exact hst.1, by rw [List.length_set]; exact el, fun j hj => ?_⟩
  have hj0 : j < L.length := by rwa [List.length_set] at hj
  by_cases e : j = k
  · subst e
    obtain ⟨a1, a2, -⟩ := hs j hj0
    rw [List.getElem_set_self]
    refine ⟨a1, a2, ?_⟩
    obtain ⟨B, c, ev⟩ := sl_of ho
    have hI : ∀ x ∈ (ss[j]).2, I64 x := by
      obtain ⟨_, _, B', c', -, n, -⟩ := hs j hj0
      intro x hx
      obtain ⟨A, cap, -, -, -, h4⟩ := n
      obtain ⟨i, hi, rfl⟩ := List.getElem_of_mem hx
      obtain ⟨g, off, -, -, -, h⟩ := h4 i hi
      exact h
    have hnm : NmW 0 Y vc (ss[j]).2 := ⟨B, c, ev, NmIn.own hI ho, fun _ g off q => .inr (by
      rcases ho.2 with ⟨z, -⟩ | ⟨g', cap', cur, z, -, hh, -⟩
      · rw [z] at ev; injection ev with ev; rw [q] at ev; cases ev
      · rw [z] at ev
        injection ev with ev
        rw [q] at ev
        injection ev with ev
        injection ev with ev
        subst ev
        exact ⟨cur, hh⟩)⟩
    rw [if_pos (by omega)]
    exact hnm.step hst.2 (fun g hg => by omega) (fun g cur r => own_ne o2 r (by decide))
  · obtain ⟨a1, a2, a3⟩ := hs j hj0
    rw [List.getElem_set_ne (Ne.symm e)]
    refine ⟨a1, a2, ?_⟩
    have a4 := a3.step hst.2 (fun g hg q => by have := if_lt hg; injection q with q; omega) (fun g cur r => own_ne o2 r (by decide))
    by_cases q : j < k
    · rw [if_pos q] at a4; rw [if_pos (by omega)]; exact a4
    · rw [if_neg q] at a4; rw [if_neg (by omega)]; exact a4
/-- What clone leaves. -/
def CloneR (w : World) (v : Int) (es : List En) (ss : List Sq) (e : Ending) (w' : World) : Prop := ∃ vE vS, ∃ L : List (Int × Value), e = .returned (.agg #[.int .i64 v, vE, vS]) ∧ (w'.ownsRow w.heap.size 47 5 vE es.length (rowE es) ∧ w'.ownsRow w.heap.size 58 2 vS ss.length (rowS L) ∧ SsW w w' ss.length ss L) ∧ Below w.heap.size w w'
set_option maxRecDepth 100000 in
set_option maxHeartbeats 4000000 in
theorem clone_any (tv : Value) (v : Int) (es : List En) (ss : List Sq) (w : World) (hT : TbIn w tv v es ss) (hel : es.length ≤ 1000) (hsl : ss.length ≤ 1000) (hcl : ∀ s ∈ ss, s.2.length ≤ 1000) :
    Calls Tryd.prog 47 #[tv] w (CloneR w v es ss) := by
  obtain ⟨a, b, rfl, hE, hS⟩ := hT
  have HE := Lib.hid hE
  have HS := Lib.hid hS
  have HCL := Lib.hid hcl
  clear hcl
  obtain ⟨A, cap, rfl, -, -, -⟩ := hE
  obtain ⟨B, cbp, rfl, -, -, -⟩ := hS
  obtain ⟨L0, hsv, hss⟩ := sv_of HS.out
  have HSV := Lib.hid hsv
  have HSS := Lib.hid hss
  have hL0 : L0.length = ss.length := hss.choose.symm
  clear hsv hss
  have h1 : Below w.heap.size w (w.alloc (.cells #[.int .i64 v, .slice A es.length cap, .slice B ss.length cbp] 25)) := (Below.refl _ _).alloc (Nat.le_refl _) _
  have HJ : Hid (Row ((w.alloc (.cells #[.int .i64 v, .slice A es.length cap, .slice B ss.length cbp] 25)).alloc (.cells #[.int .i64 0, .slice none 0 0, .slice none 0 0] 25)) w.heap.size 25 #[.int .i64 v, .slice A es.length cap, .slice B ss.length cbp] ∧ Row ((w.alloc (.cells #[.int .i64 v, .slice A es.length cap, .slice B ss.length cbp] 25)).alloc (.cells #[.int .i64 0, .slice none 0 0, .slice none 0 0] 25)) (w.heap.size + 1) 25 #[.int .i64 0, .slice none 0 0, .slice none 0 0] ∧ Below w.heap.size w ((w.alloc (.cells #[.int .i64 v, .slice A es.length cap, .slice B ss.length cbp] 25)).alloc (.cells #[.int .i64 0, .slice none 0 0, .slice none 0 0] 25))) := Lib.hid ⟨(Row.new _ _ _).alloc _, Row.newAt (by simp), alloc_below h1 h1.size _⟩
  clear h1
  go_enter Tryd.func47, Tryd.ntmps47
  go_upto_region 1 with fail
  refine forget (fun Y => Hid (Row Y w.heap.size 25 #[.int .i64 v, .slice A es.length cap, .slice B ss.length cbp] ∧ Row Y (w.heap.size + 1) 25 #[.int .i64 0, .slice none 0 0, .slice none 0 0] ∧ Below w.heap.size w Y)) HJ ?_
  clear HJ
  intro Y0 HJ
  obtain ⟨q0, q1, q2⟩ := row3 HJ.out.1
  go_wp2_with fail
  refine (cloneE_any _ es Y0 (HE.out.under HJ.out.2.2) hel).mono ?_
  rintro e w1 ⟨vE, rfl, ho, hb⟩
  obtain ⟨Ae, ce, ev⟩ := sl_of ho
  subst ev
  have H1 := Lib.hid (⟨⟨HJ.out.1.under hb, HJ.out.2.1.under hb, HJ.out.2.2.trans (hb.mono HJ.out.2.2.size)⟩, own_base ho HJ.out.2.2.size⟩ : (Row w1 w.heap.size 25 #[.int .i64 v, .slice A es.length cap, .slice B ss.length cbp] ∧ Row w1 (w.heap.size + 1) 25 #[.int .i64 0, .slice none 0 0, .slice none 0 0] ∧ Below w.heap.size w w1) ∧ w1.ownsRow w.heap.size 47 5 (.slice Ae es.length ce) es.length (rowE es))
  clear ho hb HJ q0 q1 q2
  have f1 := H1.out.1.1.thaw 1
  obtain ⟨q0, q1, q2⟩ := row3 H1.out.1.1
  have H2 : Hid ((Row (w1.setCell ⟨w.heap.size, 1, none⟩ (.slice Ae es.length ce)) w.heap.size 25 #[.int .i64 v, .slice Ae es.length ce, .slice B ss.length cbp] ∧ Row (w1.setCell ⟨w.heap.size, 1, none⟩ (.slice Ae es.length ce)) (w.heap.size + 1) 25 #[.int .i64 0, .slice none 0 0, .slice none 0 0] ∧ Below w.heap.size w (w1.setCell ⟨w.heap.size, 1, none⟩ (.slice Ae es.length ce))) ∧ (w1.setCell ⟨w.heap.size, 1, none⟩ (.slice Ae es.length ce)).ownsRow w.heap.size 47 5 (.slice Ae es.length ce) es.length (rowE es)) := Lib.hid ⟨⟨H1.out.1.1.put 1 _, H1.out.1.2.1.far (p := ⟨w.heap.size, 1, none⟩) (by show w.heap.size ≠ w.heap.size + 1; omega) _, H1.out.1.2.2.setCell (p := ⟨w.heap.size, 1, none⟩) (Nat.le_refl _) _⟩, H1.out.2.kept grown_put (.inr (Ne.symm (own_ne H1.out.2 H1.out.1.1 (by decide))))⟩
  go_upto_region 2 with fail
  generalize w1.setCell ⟨w.heap.size, 1, none⟩ (.slice Ae es.length ce) = w2 at H2 ⊢
  clear H1 f1 q0 q1 q2
  obtain ⟨q0, q1, q2⟩ := row3 H2.out.1.1
  go_wp2_with fail
  refine (cloneS_any _ L0 w2 (HSV.out.under H2.out.1.2.2) (by omega)).mono ?_
  rintro e w3 ⟨vS, rfl, ho, hb⟩
  rw [hL0] at ho
  obtain ⟨As, cs, ev⟩ := sl_of ho
  subst ev
  have H3 := Lib.hid (⟨⟨H2.out.1.1.under hb, H2.out.1.2.1.under hb, H2.out.1.2.2.trans (hb.mono H2.out.1.2.2.size)⟩, own_under H2.out.2 hb, own_base ho H2.out.1.2.2.size⟩ : (Row w3 w.heap.size 25 #[.int .i64 v, .slice Ae es.length ce, .slice B ss.length cbp] ∧ Row w3 (w.heap.size + 1) 25 #[.int .i64 0, .slice none 0 0, .slice none 0 0] ∧ Below w.heap.size w w3) ∧ w3.ownsRow w.heap.size 47 5 (.slice Ae es.length ce) es.length (rowE es) ∧ w3.ownsRow w.heap.size 58 2 (.slice As ss.length cs) ss.length (rowS L0))
  clear ho hb H2 q0 q1 q2
  have f2 := H3.out.1.1.thaw 2
  obtain ⟨q0, q1, q2⟩ := row3 H3.out.1.1
  have H4 : Hid (((Row (w3.setCell ⟨w.heap.size, 2, none⟩ (.slice As ss.length cs)) w.heap.size 25 #[.int .i64 v, .slice Ae es.length ce, .slice As ss.length cs] ∧ Row (w3.setCell ⟨w.heap.size, 2, none⟩ (.slice As ss.length cs)) (w.heap.size + 1) 25 #[.int .i64 0, .slice none 0 0, .slice none 0 0] ∧ Below w.heap.size w (w3.setCell ⟨w.heap.size, 2, none⟩ (.slice As ss.length cs))) ∧ (w3.setCell ⟨w.heap.size, 2, none⟩ (.slice As ss.length cs)).ownsRow w.heap.size 47 5 (.slice Ae es.length ce) es.length (rowE es) ∧ (w3.setCell ⟨w.heap.size, 2, none⟩ (.slice As ss.length cs)).ownsRow w.heap.size 58 2 (.slice As ss.length cs) ss.length (rowS L0) ∧ SsW w (w3.setCell ⟨w.heap.size, 2, none⟩ (.slice As ss.length cs)) 0 ss L0)) := Lib.hid (by
    have hb0 := H3.out.1.2.2.setCell (p := ⟨w.heap.size, 2, none⟩) (Nat.le_refl _) (.slice As ss.length cs)
    exact ⟨⟨H3.out.1.1.put 2 _, H3.out.1.2.1.far (p := ⟨w.heap.size, 2, none⟩) (by show w.heap.size ≠ w.heap.size + 1; omega) _, hb0⟩, H3.out.2.1.kept grown_put (.inr (Ne.symm (own_ne H3.out.2.1 H3.out.1.1 (by decide)))), H3.out.2.2.kept grown_put (.inr (Ne.symm (own_ne H3.out.2.2 H3.out.1.1 (by decide)))), HSS.out.under hb0⟩)
  go_upto_region 3 with fail
  generalize w3.setCell ⟨w.heap.size, 2, none⟩ (.slice As ss.length cs) = w4 at H4 ⊢
  clear H3 f2 q0 q1 q2
  obtain ⟨q0, q1, q2⟩ := row3 H4.out.1.1
  go_wp2_with fail
  clear q0 q1 q2
  go_loopw [16] (fun t Y => ∃ (k : Nat) (L : List (Int × Value)), k ≤ ss.length ∧ t = .int .i64 k ∧ Hid (((Row Y w.heap.size 25 #[.int .i64 v, .slice Ae es.length ce, .slice As ss.length cs] ∧ Row Y (w.heap.size + 1) 25 #[.int .i64 0, .slice none 0 0, .slice none 0 0] ∧ Below w.heap.size w Y) ∧ Y.ownsRow w.heap.size 47 5 (.slice Ae es.length ce) es.length (rowE es) ∧ Y.ownsRow w.heap.size 58 2 (.slice As ss.length cs) ss.length (rowS L) ∧ SsW w Y k ss L))) (fun t _ => ss.length - (intOf t).toNat)
  case atStart => exact ⟨0, L0, Nat.zero_le _, rfl, H4⟩
  case round =>
    clear H4 hL0 HSV HSS
    obtain ⟨k, L, hk, rfl, M⟩ := hrel
    have hLl : L.length = ss.length := M.out.2.2.2.choose.symm
    by_cases hlt : k < ss.length
    · have k0 : (0 : Int) ≤ (k : Int) := by omega
      have k1 : (k : Int) < (ss.length : Int) := by omega
      obtain ⟨s1, s2, Bk, ck, s3, s4, s5⟩ := M.out.2.2.2.choose_spec k (by omega)
      obtain ⟨gs, rfl⟩ : ∃ gs, As = some ⟨gs, 0, none⟩ := by
        rcases M.out.2.2.1.2 with ⟨q, h0⟩ | ⟨g, cap', cur, q, -⟩
        · omega
        · injection q with q; exact ⟨g, q⟩
      have c0 : wr.cell? ⟨gs, k * 2, none⟩ = some (.int .i64 (L[k]'(by omega)).1) := (M.out.2.2.1.cellAt (k * 2) (by omega)).trans (rowS_at L k (by omega)).1
      have c1 : wr.cell? ⟨gs, k * 2 + 1, none⟩ = some (.slice Bk (ss[k]).2.length ck) := ((M.out.2.2.1.cellAt (k * 2 + 1) (by omega)).trans (rowS_at L k (by omega)).2).trans (by rw [s3])
      have s1' : (ss[k]).1 = (L[k]'(by omega)).1 := s1
      rw [← s1'] at c0
      rw [s3] at s4
      have s4' : NmIn wr (.slice Bk (ss[k]).2.length ck) (ss[k]).2 := s4
      have HNk := Lib.hid s4'
      clear s1' s4'
      have hlb := HCL.out _ (List.getElem_mem hlt)
      have hkL : k < L.length := by omega
      have x9 : IntKind.i64.wrap (k : Int) = (k : Int) := IntWalk.i64_in _ (by omega)
      clear s1 s2 s3 s4 s5
      go_upto_region 6 with fail
      have hb := (Below.refl wr.heap.size wr).alloc (Nat.le_refl _) (.cells #[.int .i64 (ss[k]).1, .slice Bk (ss[k]).2.length ck] 58)
      have HA : Hid (((Row (wr.alloc (.cells #[.int .i64 (ss[k]).1, .slice Bk (ss[k]).2.length ck] 58)) w.heap.size 25 #[.int .i64 v, .slice Ae es.length ce, .slice (some ⟨gs, 0, none⟩) ss.length cs] ∧ Row (wr.alloc (.cells #[.int .i64 (ss[k]).1, .slice Bk (ss[k]).2.length ck] 58)) (w.heap.size + 1) 25 #[.int .i64 0, .slice none 0 0, .slice none 0 0] ∧ Below w.heap.size w (wr.alloc (.cells #[.int .i64 (ss[k]).1, .slice Bk (ss[k]).2.length ck] 58))) ∧ (wr.alloc (.cells #[.int .i64 (ss[k]).1, .slice Bk (ss[k]).2.length ck] 58)).ownsRow w.heap.size 47 5 (.slice Ae es.length ce) es.length (rowE es) ∧ (wr.alloc (.cells #[.int .i64 (ss[k]).1, .slice Bk (ss[k]).2.length ck] 58)).ownsRow w.heap.size 58 2 (.slice (some ⟨gs, 0, none⟩) ss.length cs) ss.length (rowS L) ∧ SsW w (wr.alloc (.cells #[.int .i64 (ss[k]).1, .slice Bk (ss[k]).2.length ck] 58)) k ss L) ∧ Row (wr.alloc (.cells #[.int .i64 (ss[k]).1, .slice Bk (ss[k]).2.length ck] 58)) wr.heap.size 58 #[.int .i64 (ss[k]).1, .slice Bk (ss[k]).2.length ck] ∧ NmIn (wr.alloc (.cells #[.int .i64 (ss[k]).1, .slice Bk (ss[k]).2.length ck] 58)) (.slice Bk (ss[k]).2.length ck) (ss[k]).2) := Lib.hid ⟨⟨⟨M.out.1.1.under hb, M.out.1.2.1.under hb, M.out.1.2.2.trans (hb.mono M.out.1.2.2.size)⟩, own_under M.out.2.1 hb, own_under M.out.2.2.1 hb, M.out.2.2.2.under hb⟩, Row.new _ _ _, HNk.out.under hb⟩
      refine forget (fun V => Hid (((Row V w.heap.size 25 #[.int .i64 v, .slice Ae es.length ce, .slice (some ⟨gs, 0, none⟩) ss.length cs] ∧ Row V (w.heap.size + 1) 25 #[.int .i64 0, .slice none 0 0, .slice none 0 0] ∧ Below w.heap.size w V) ∧ V.ownsRow w.heap.size 47 5 (.slice Ae es.length ce) es.length (rowE es) ∧ V.ownsRow w.heap.size 58 2 (.slice (some ⟨gs, 0, none⟩) ss.length cs) ss.length (rowS L) ∧ SsW w V k ss L) ∧ Row V wr.heap.size 58 #[.int .i64 (ss[k]).1, .slice Bk (ss[k]).2.length ck] ∧ NmIn V (.slice Bk (ss[k]).2.length ck) (ss[k]).2)) HA ?_
      have hne : gs ≠ wr.heap.size := by have := (M.out.2.2.1.lt gs rfl).2; omega
      clear HA M hb c0 c1 HNk
      generalize wr.heap.size = g4 at hne ⊢
      intro V M
      refine wp_region_held_drew (S := fun Y : World => Y.cell? ⟨w.heap.size, 2, none⟩ = some (.slice (some ⟨gs, 0, none⟩) ss.length cs) ∧ Y.cell? ⟨g4, 1, none⟩ = some (.slice Bk (ss[k]).2.length ck)) (by kernel_rfl) ⟨(row3 M.out.1.1.1).2.2, (row2 M.out.2.1).2⟩ (fun hHeld => ?_)
      have hd : Below V.heap.size V V.drew := below_drewN (Below.refl _ _) 1
      have HD : Hid (((Row V.drew w.heap.size 25 #[.int .i64 v, .slice Ae es.length ce, .slice (some ⟨gs, 0, none⟩) ss.length cs] ∧ Row V.drew (w.heap.size + 1) 25 #[.int .i64 0, .slice none 0 0, .slice none 0 0] ∧ Below w.heap.size w V.drew) ∧ V.drew.ownsRow w.heap.size 47 5 (.slice Ae es.length ce) es.length (rowE es) ∧ V.drew.ownsRow w.heap.size 58 2 (.slice (some ⟨gs, 0, none⟩) ss.length cs) ss.length (rowS L) ∧ SsW w V.drew k ss L) ∧ Row V.drew g4 58 #[.int .i64 (ss[k]).1, .slice Bk (ss[k]).2.length ck] ∧ NmIn V.drew (.slice Bk (ss[k]).2.length ck) (ss[k]).2) := Lib.hid ⟨⟨⟨M.out.1.1.1.under hd, M.out.1.1.2.1.under hd, M.out.1.1.2.2.trans (hd.mono M.out.1.1.2.2.size)⟩, own_under M.out.1.2.1 hd, own_under M.out.1.2.2.1 hd, M.out.1.2.2.2.under hd⟩, M.out.2.1.under hd, M.out.2.2.under hd⟩
      clear M hd
      generalize V.drew = X at HD hHeld ⊢
      refine wpAnyH_take (i := 0) (oi := ⟨some 21, _, _, _, _, none⟩) (v := ?_) rfl (by kernel_rfl) (by kernel_rfl) (by kernel_rfl) (fun _ _ _ h => h) (Or.inl ⟨by rfl, ?_⟩) (by assumption) ?_
      case refine_2 => (intro wx hSx; (try dsimp only at hSx); go_simp; first | done | with_reducible rfl)
      ((try simp only [Act.put]); (try simp only [List.setIfInBounds_toArray]); (try simp only [List.set_cons_succ]); (try simp only [List.set_cons_zero]))
      refine wpAnyH_take (i := 1) (oi := ⟨some 22, _, _, _, _, none⟩) (v := ?_) rfl (by kernel_rfl) (by kernel_rfl) (by kernel_rfl) (fun _ _ _ h => h) (Or.inl ⟨by rfl, ?_⟩) (by assumption) ?_
      case refine_2 => (intro wx hSx; (try dsimp only at hSx); go_simp; first | done | with_reducible rfl)
      ((try simp only [Act.put]); (try simp only [List.setIfInBounds_toArray]); (try simp only [List.set_cons_succ]); (try simp only [List.set_cons_zero]))
      refine wpAnyH_take (i := 2) (oi := ⟨some 23, _, _, _, _, none⟩) (v := ?_) rfl (by kernel_rfl) (by kernel_rfl) (by kernel_rfl) (fun _ _ _ h => h) (Or.inl ⟨by rfl, ?_⟩) (by assumption) ?_
      case refine_2 => (intro wx hSx; (try dsimp only at hSx); go_simp; first | done | with_reducible rfl)
      ((try simp only [Act.put]); (try simp only [List.setIfInBounds_toArray]); (try simp only [List.set_cons_succ]); (try simp only [List.set_cons_zero]))
      refine wpAnyH_take (i := 3) (oi := ⟨some 24, _, _, _, _, none⟩) (v := ?_) rfl (by kernel_rfl) (by kernel_rfl) (by kernel_rfl) (fun _ _ _ h => h) (Or.inl ⟨by rfl, ?_⟩) (by assumption) ?_
      case refine_2 => (intro wx hSx; (try dsimp only at hSx); go_simp; first | done | with_reducible rfl)
      ((try simp only [Act.put]); (try simp only [List.setIfInBounds_toArray]); (try simp only [List.set_cons_succ]); (try simp only [List.set_cons_zero]))
      refine wpAnyH_take (i := 4) (oi := ⟨some 25, _, _, _, _, none⟩) (v := ?_) rfl (by kernel_rfl) (by kernel_rfl) (by kernel_rfl) (fun _ _ _ h => h) (Or.inl ⟨by rfl, ?_⟩) (by assumption) ?_
      case refine_2 => (intro wx hSx; (try dsimp only at hSx); go_simp; first | done | with_reducible rfl)
      ((try simp only [Act.put]); (try simp only [List.setIfInBounds_toArray]); (try simp only [List.set_cons_succ]); (try simp only [List.set_cons_zero]))
      refine wpAnyH_ready (rs := [5]) (by kernel_rfl) (by simp) ?_
      refine AllReadyH.cons (o := ⟨some 26, _, _, _, _, none⟩) rfl (fun Kx hK => ?_) AllReadyH.nil
      go_simp
      refine (cloneI_any _ (ss[k]).2 X HD.out.2.2 hlb).mono ?_
      rintro e w5 ⟨vc, rfl, ho, hb⟩
      obtain ⟨Ad, cd, ev⟩ := sl_of ho
      subst ev
      have HO := Lib.hid ho
      have HM : Hid (((Row w5 w.heap.size 25 #[.int .i64 v, .slice Ae es.length ce, .slice (some ⟨gs, 0, none⟩) ss.length cs] ∧ Row w5 (w.heap.size + 1) 25 #[.int .i64 0, .slice none 0 0, .slice none 0 0] ∧ Below w.heap.size w w5) ∧ w5.ownsRow w.heap.size 47 5 (.slice Ae es.length ce) es.length (rowE es) ∧ w5.ownsRow w.heap.size 58 2 (.slice (some ⟨gs, 0, none⟩) ss.length cs) ss.length (rowS L) ∧ SsW w w5 k ss L) ∧ Row w5 g4 58 #[.int .i64 (ss[k]).1, .slice Bk (ss[k]).2.length ck]) := Lib.hid ⟨⟨⟨HD.out.1.1.1.under hb, HD.out.1.1.2.1.under hb, HD.out.1.1.2.2.trans (hb.mono HD.out.1.1.2.2.size)⟩, own_under HD.out.1.2.1 hb, own_under HD.out.1.2.2.1 hb, HD.out.1.2.2.2.under hb⟩, HD.out.2.1.under hb⟩
      clear ho hb HD hHeld
      go_simp
      refine hK.out _ _ ⟨(row3 HM.out.1.1.1).2.2, (row2 HM.out.2).2⟩ (fun hHeld => ?_)
      clear hK Kx
      ((try simp only [Act.put]); (try simp only [List.setIfInBounds_toArray]); (try simp only [List.set_cons_succ]); (try simp only [List.set_cons_zero]))
      refine wpAnyH_take (i := 6) (oi := ⟨some 27, _, _, _, _, none⟩) (v := ?_) rfl (by kernel_rfl) (by kernel_rfl) (by kernel_rfl) (fun _ _ _ h => h) (Or.inl ⟨by rfl, ?_⟩) (by assumption) ?_
      case refine_2 => (intro wx hSx; (try dsimp only at hSx); go_simp; first | done | with_reducible rfl)
      ((try simp only [Act.put]); (try simp only [List.setIfInBounds_toArray]); (try simp only [List.set_cons_succ]); (try simp only [List.set_cons_zero]))
      refine wpAnyH_take (i := 7) (oi := ⟨some 28, _, _, _, _, none⟩) (v := ?_) rfl (by kernel_rfl) (by kernel_rfl) (by kernel_rfl) (fun _ _ _ h => h) (Or.inl ⟨by rfl, ?_⟩) (by assumption) ?_
      case refine_2 => (intro wx hSx; (try dsimp only at hSx); go_simp; first | done | with_reducible rfl)
      ((try simp only [Act.put]); (try simp only [List.setIfInBounds_toArray]); (try simp only [List.set_cons_succ]); (try simp only [List.set_cons_zero]))
      refine wpAnyH_ready (rs := [8]) (by kernel_rfl) (by simp) ?_
      refine AllReadyH.cons (o := ⟨none, _, _, _, _, none⟩) rfl (fun Kx hK => ?_) AllReadyH.nil
      have f1 := HM.out.1.2.2.1.frozenAt (k * 2 + 1)
      have c1 := HM.out.1.2.2.1.cellAt (k * 2 + 1) (by omega)
      rw [(rowS_at L k (by omega)).2] at c1
      go_simp
      have HF := Lib.hid (clone_put HM.out.1 hkL hlt HO.out)
      have hrr := HM.out.2.far (p := ⟨gs, k * 2 + 1, none⟩) hne (.slice Ad (ss[k]).2.length cd)
      refine hK.out _ _ ⟨(row3 HF.out.1.1).2.2, (row2 hrr).2⟩ (fun hHeld2 => ?_)
      clear hK Kx hHeld hHeld2 f1 c1 hrr HM HO
      ((try simp only [Act.put]); (try simp only [List.setIfInBounds_toArray]); (try simp only [List.set_cons_succ]); (try simp only [List.set_cons_zero]))
      refine wpAnyH_done (by kernel_rfl) ?_ _
      clear x9
      go_wp2_with fail
      go_roundw
      case rel => exact ⟨k + 1, _, by omega, by go_num, HF⟩
      case measure => simp [intOf]; omega
    · have k1 : ¬ (k : Int) < (ss.length : Int) := by omega
      obtain ⟨q0, q1, q2⟩ := row3 M.out.1.1
      have f0 := M.out.1.2.1.thaw 0
      have f1 := M.out.1.2.1.thaw 1
      have f2 := M.out.1.2.1.thaw 2
      obtain ⟨p0, p1, p2⟩ := row3 M.out.1.2.1
      have HR := Lib.hid (set3_row (.int .i64 v) (.slice Ae es.length ce) (.slice As ss.length cs) M.out.1.2.1)
      have HB := Lib.hid (set3_below (u0 := .int .i64 v) (u1 := .slice Ae es.length ce) (u2 := .slice As ss.length cs) M.out.1.2.2 (by omega : w.heap.size ≤ w.heap.size + 1))
      go_wp2_with fail
      obtain rfl : k = ss.length := by omega
      have hTb := Lib.hid (clone_end (v := v) (u0 := .int .i64 v) (u1 := .slice Ae es.length ce) (u2 := .slice As ss.length cs) (ents_i64 HE.out) M.out.1.2.1 M.out.2.1 M.out.2.2.1 M.out.2.2.2)
      exact bodyPost_ret (v := .agg #[.int .i64 v, .slice Ae es.length ce, .slice As ss.length cs]) (by obtain ⟨z0, z1, z2⟩ := row3 HR.out; simp [results, Tryd.results47, z0, z1, z2, go_sem]) rfl ⟨_, _, L, rfl, ⟨hTb.out.1, hTb.out.2.1, hTb.out.2.2.1⟩, HB.out⟩
end Go.Proofs.YtjaopjhfjijdaaaDoor
