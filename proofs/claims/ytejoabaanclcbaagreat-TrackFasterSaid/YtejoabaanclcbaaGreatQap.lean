/- Texts of this proof. -/
import Derived.Test.YtejoabaanclcbaaGreatRFrl
import Derived.Test.YtejoabaanclcbaaGreatRCells
import Derived.Test.YtejoabaanclcbaaGreatQan
import Derived.Test.YtejoabaanclcbaaGreatQac
import Derived.Test.YtejoabaanclcbaaGreatQaj
import Derived.Test.YtejoabaanclcbaaGreatCelM
namespace Go.Proofs.YtejoabaanclcbaaGreat
open Go.RowKit Go.Maps Go.Shelf

/-- What around leaves. -/
def AroundR (W : World) (n : Nat) (e : Ending) (w : World) : Prop := ∃ g cap, e = .returned (.slice (some ⟨g, 0, none⟩) (cn n) cap) ∧ cn n ≤ cap ∧ cap ≤ 9223372036854775807 ∧ Below W.heap.size W w ∧ Nb w g n
/-- around answers as it should. -/
def Arn : Prop := ∀ (n : Nat) (w : World), Lat.frq n → Calls Tryz.prog 64 #[.int .i64 (n : Int)] w (AroundR w n)
set_option maxRecDepth 100000 in
set_option maxHeartbeats 2000000 in
theorem from_of (H : Arn) (n a : Nat) (D : Nat → Nat) (w : World) (hn : Lat.frq n) (ha : a < cn n) (hD : Lat.Far n a D) (hDb : ∀ x, x < cn n → D x ≤ 100000) : Calls Tryz.prog 50 #[.int .i64 (n : Int), .int .i64 (a : Int)] w (FlR w n D) := by
  go_enter Tryz.func50, Tryz.ntmps50
  go_wp2_with fail
  refine (H n _ hn).mono ?_
  rintro e w1 ⟨g, cap, rfl, h1, h2, hb, hnb⟩
  have HB := Lib.hid hb; clear hb
  go_wp2_with fail
  refine (fromList_any n g cap a D _ hn ha hnb hD hDb h1 h2).mono ?_
  rintro e w2 ⟨g2, rfl, hb2, hg2, hns⟩
  have HF : Hid (Below w.heap.size w w2 ∧ w.heap.size ≤ g2 ∧ Ns w2 g2 (cn n) (fun x => (D x : Int))) := Lib.hid ⟨HB.out.trans (hb2.mono HB.out.size), Nat.le_trans HB.out.size hg2, hns⟩
  clear hb2 hg2 hns
  go_wp2_with fail
  go_ret
  exact ⟨g2, rfl, HF.out⟩
set_option maxRecDepth 100000 in
set_option maxHeartbeats 2000000 in
theorem refHops_of (H : Arn) (n a b : Nat) (D : Nat → Nat) (w : World) (hn : Lat.frq n) (ha : a < cn n) (hb : b < cn n) (hD : Lat.Far n a D) (hDb : ∀ x, x < cn n → D x ≤ 100000) : Calls Tryz.prog 26 #[.int .i64 (n : Int), .int .i64 (a : Int), .int .i64 (b : Int)] w (HopR w (D b)) := by
  have a0 : ¬ ((a : Int) < 0) := by omega
  have b0 : ¬ ((b : Int) < 0) := by omega
  have b0' : (0 : Int) ≤ (b : Int) := by omega
  have a1 : ¬ ((cn n : Int) ≤ (a : Int)) := by omega
  have b1 : ¬ ((cn n : Int) ≤ (b : Int)) := by omega
  have a2 : ¬ (cn n ≤ a) := by omega
  have b2 : ¬ (cn n ≤ b) := by omega
  have b3 : (b : Int) < (cn n : Int) := by omega
  have HN := Lib.hid hn; clear hn
  have HA := Lib.hid ha; clear ha
  have HBB := Lib.hid hb; clear hb
  go_enter Tryz.func26, Tryz.ntmps26
  go_upto_region 3 with ((go_at_call 49; refine (refCount_yes _ _ HN.out).mono ?_; rintro e w1 ⟨rfl, rfl⟩))
  go_wp2_with fail
  refine (from_of H n a D _ HN.out HA.out hD hDb).mono ?_
  rintro e w1 ⟨g, rfl, hb1, -, hns⟩
  obtain ⟨c0, -⟩ := hns.at_ HBB.out
  have HB := Lib.hid hb1; clear hb1 hns
  go_wp2_with fail
  go_ret2
  exact ⟨rfl, HB.out⟩
end Go.Proofs.YtejoabaanclcbaaGreat



namespace Go.Proofs.YtejoabaanclcbaaGreat
open Go.RowKit Go.Maps Go.Shelf

end Go.Proofs.YtejoabaanclcbaaGreat



namespace Go.Proofs.YtejoabaanclcbaaGreat
open Go.RowKit Go.Maps Go.Shelf

theorem Lat.nbs_some {n a : Nat} (h : Lat.frq n) (ha : a < 10 * n * n + 2) : 0 < (Lat.nbs n a).length := by
  obtain ⟨b, hb, hne⟩ : ∃ b, b < 10 * n * n + 2 ∧ a ≠ b := by
    rcases Nat.eq_zero_or_pos a with h0 | h0
    · exact ⟨1, by omega, by omega⟩
    · exact ⟨0, by omega, by omega⟩
  obtain ⟨d, hd⟩ := Lat.dist_all h ha hb
  have h1 : 1 ≤ d := by
    rcases Nat.eq_zero_or_pos d with h0 | h0
    · exact absurd ((Lat.dist_zero hd).1 h0) hne
    · exact h0
  obtain ⟨y, hy⟩ := Lat.dist_pre hd 1 h1
  exact List.length_pos_of_mem ((Lat.dist_near h ha hy).1 rfl)
theorem below_new1 {w w' : World} (hg : w.grownBy w' none) : Below w.heap.size w w' := (Below.refl _ w).grown hg (Nat.le_refl _) (by simp)
/-- A list of numbers as a value: nil, or in a block that is not go. -/
def NmJ (w : World) (go : Nat) (v : Value) (l : List Nat) : Prop := (l = [] ∧ v = .slice none 0 0) ∨ ∃ b cap, v = .slice (some ⟨b, 0, none⟩) l.length cap ∧ 0 < l.length ∧ l.length ≤ cap ∧ cap ≤ 9223372036854775807 ∧ b ≠ go ∧ Cs w b l
theorem NmJ.under {w w' : World} {x : Nat} {v : Value} {l : List Nat} (h : NmJ w x v l) (hb : Below w.heap.size w w') : NmJ w' x v l := by
  rcases h with h | ⟨b, cap, h1, h2, h3, h4, h5, h6⟩
  · exact .inl h
  · exact .inr ⟨b, cap, h1, h2, h3, h4, h5, h6.under hb⟩
theorem NmJ.grown {w w' : World} {x : Nat} {v : Value} {l : List Nat} (h : NmJ w x v l) (hb : w.grownBy w' (some x)) : NmJ w' x v l := by
  rcases h with h | ⟨b, cap, h1, h2, h3, h4, h5, h6⟩
  · exact .inl h
  · exact .inr ⟨b, cap, h1, h2, h3, h4, h5, h6.grown hb (fun e => h5 (Option.some.inj e))⟩
theorem nmj_own {w : World} {base n x : Nat} {e : TypeId} {v : Value} {l : List Nat} (h : w.ownsRow base e 1 v n (zc l)) (hn : n = l.length) (hp : 0 < l.length) (hx : x < base) : NmJ w x v l := by
  have h' := h
  rcases h.2 with ⟨_, h0⟩ | ⟨g, cap, cur, rfl, hb, hh, hle, hmax, _⟩
  · omega
  · exact .inr ⟨g, cap, by rw [hn], hp, by omega, by unfold maxLen at hmax; omega, by omega, cs_of_own h' hn⟩
/-- The lists behind the pairs P. -/
structure Ar (W : World) (n go : Nat) (P : List (Nat × Nat)) (w : World) : Prop where
  below : Below W.heap.size W w
  far : W.heap.size ≤ go
  tab : ∃ cs, Row w go 23 cs ∧ cs.size = cn n ∧ ∀ i, i < cn n → ∃ v l, cs[i]? = some v ∧ NmJ w go v l ∧ Lat.NbOf P i l
  sm : ∀ p ∈ P, p.2 < cn n
section
variable {W w w' : World} {n go : Nat} {P : List (Nat × Nat)}
theorem Ar.lt (h : Ar W n go P w) : go < w.heap.size := by
  obtain ⟨cs, h1, -⟩ := h.tab
  exact h1.lt
theorem Ar.at_ (h : Ar W n go P w) {i : Nat} (hi : i < cn n) : ∃ v l, w.cell? ⟨go, i, none⟩ = some v ∧ w.frozen? ⟨go, i, none⟩ = false ∧ NmJ w go v l ∧ Lat.NbOf P i l := by
  obtain ⟨cs, h1, h2, h3⟩ := h.tab
  obtain ⟨v, l, e1, e2, e3⟩ := h3 i hi
  exact ⟨v, l, (h1.cell i).trans e1, h1.thaw i, e2, e3⟩
theorem Ar.under (h : Ar W n go P w) (hb : Below w.heap.size w w') : Ar W n go P w' := by
  obtain ⟨cs, h1, h2, h3⟩ := h.tab
  refine ⟨h.below.trans (hb.mono h.below.size), h.far, ⟨cs, h1.under hb, h2, fun i hi => ?_⟩, h.sm⟩
  obtain ⟨v, l, e1, e2, e3⟩ := h3 i hi
  exact ⟨v, l, e1, e2.under hb, e3⟩
theorem sm_snoc {m a b : Nat} {P : List (Nat × Nat)} (h : ∀ p ∈ P, p.2 < m) (hb : b < m) : ∀ p ∈ P ++ [(a, b)], p.2 < m := fun p hp => by
  rcases List.mem_append.1 hp with hp | hp
  · exact h p hp
  · rw [List.mem_singleton.1 hp]; exact hb
theorem Ar.len (h : Ar W n go P w) {a : Nat} {l : List Nat} (hl : Lat.NbOf P a l) : l.length ≤ cn n :=
  Lat.len_lt (hl.1.imp Nat.ne_of_lt) (fun x hx => h.sm (a, x) ((hl.2 x).1 hx))
theorem Ar.start (w : World) (n : Nat) : Ar w n w.heap.size [] (w.alloc (.cells (madeCells #[.slice none 0 0] (cn n)) 23)) :=
  ⟨(Below.refl _ _).alloc (Nat.le_refl _) _, Nat.le_refl _, ⟨_, Row.new _ _ _, size_madeCells _ _, fun i hi => ⟨_, [], by simp [madeCells, hi, Nat.mod_one], .inl ⟨rfl, rfl⟩, Lat.nbof_nil i⟩⟩, fun p hp => by cases hp⟩
theorem Ar.know (h : Ar W n go P w) {a b : Nat} (hbn : b < cn n) (hk : ∀ l, Lat.NbOf P a l → b ∈ l) : Ar W n go (P ++ [(a, b)]) w := by
  obtain ⟨cs, h1, h2, h3⟩ := h.tab
  refine ⟨h.below, h.far, ⟨cs, h1, h2, fun i hi => ?_⟩, sm_snoc h.sm hbn⟩
  obtain ⟨v, l, e1, e2, e3⟩ := h3 i hi
  refine ⟨v, l, e1, e2, ?_⟩
  by_cases e : a = i
  · subst e; exact Lat.nbof_known e3 (hk l e3)
  · exact Lat.nbof_other e3 e
theorem Ar.put (h : Ar W n go P w) {a b k : Nat} {v : Value} {l : List Nat} (ha : a < cn n) (hbn : b < cn n) (hv : NmJ w go v (Lat.insN k b l)) (hl : Lat.NbOf P a l) (h1 : ∀ i (h : i < l.length), i < k → l[i] < b) (h2 : ∀ h : k < l.length, b < l[k]) (hk : k ≤ l.length) : Ar W n go (P ++ [(a, b)]) (w.setCell ⟨go, a, none⟩ v) := by
  obtain ⟨cs, r1, r2, r3⟩ := h.tab
  have hg := grown_one w go a v
  refine ⟨below_by h.below h.below.size h.far hg, h.far, ⟨_, r1.put a v, by simpa using r2, fun i hi => ?_⟩, sm_snoc h.sm hbn⟩
  by_cases e : i = a
  · subst e
    exact ⟨v, _, by rw [Array.getElem?_setIfInBounds, if_pos rfl, if_pos (by omega)], hv.grown hg, Lat.nbof_new hl h1 h2 hk⟩
  · obtain ⟨v', l', e1, e2, e3⟩ := r3 i hi
    exact ⟨v', l', by rw [Array.getElem?_setIfInBounds, if_neg (fun e' => e e'.symm)]; exact e1, e2.grown hg, Lat.nbof_other e3 (fun e' => e e'.symm)⟩
theorem Ar.fin {L : List Lat.Tr} (h : Ar W n go (L.flatMap Lat.prq) w) (hn : Lat.frq n) (hL : Lat.IsCels (Lat.cls n 20) L) : Nb w go n :=
  ⟨h.lt, fun i hi => by
    obtain ⟨v, l, e1, -, e2, e3⟩ := h.at_ hi
    obtain rfl := Lat.nbof_all hn hi hL e3
    rcases e2 with ⟨e2, -⟩ | ⟨b, cap, rfl, h1, h2, h3, -, h5⟩
    · have := Lat.nbs_some hn hi
      rw [e2] at this
      exact absurd this (Nat.lt_irrefl _)
    · exact ⟨_, e1, b, cap, rfl, h2, h3, h5⟩⟩
end
theorem row2 {w : World} {b : Nat} {t : TypeId} {x y : Value} (h : Row w b t #[x, y]) : w.cell? ⟨b, 0, none⟩ = some x ∧ w.cell? ⟨b, 1, none⟩ = some y := ⟨(h.cell 0).trans rfl, (h.cell 1).trans rfl⟩
/-- What is known of one pair: its box, and the list of its node. -/
structure Ai (W : World) (n go gs gp a b : Nat) (cs : Array Value) (P : List (Nat × Nat)) (v : Value) (l : List Nat) (w : World) : Prop where
  ar : Ar W n go P w
  tab : Row w gs 127 cs
  tn : gs ≠ go
  row : Row w gp 127 #[.int .i64 (a : Int), .int .i64 (b : Int)]
  ne : gp ≠ go
  cel : w.cell? ⟨go, a, none⟩ = some v
  thaw : w.frozen? ⟨go, a, none⟩ = false
  nm : NmJ w go v l
  nb : Lat.NbOf P a l
section
variable {W w w' : World} {n go gs gp a b : Nat} {cs : Array Value} {P : List (Nat × Nat)} {v : Value} {l : List Nat}
theorem Ai.under (h : Ai W n go gs gp a b cs P v l w) (hb : Below w.heap.size w w') (ha : a < cn n) : Ai W n go gs gp a b cs P v l w' := by
  have h1 := h.ar.under hb
  obtain ⟨_, _, _, e2, _, _⟩ := h1.at_ ha
  exact ⟨h1, h.tab.under hb, h.tn, h.row.under hb, h.ne, (hb.cell (p := ⟨go, a, none⟩) h.ar.lt).trans h.cel, e2, h.nm.under hb, h.nb⟩
theorem Ai.form (h : Ai W n go gs gp a b cs P v l w) : ∃ A cap, v = .slice A l.length cap := by
  rcases h.nm with ⟨rfl, e⟩ | ⟨b, cap, e, -⟩
  · exact ⟨_, _, e⟩
  · exact ⟨_, _, e⟩
theorem Ai.S (h : Ai W n go gs gp a b cs P v l w) : w.cell? ⟨gp, 0, none⟩ = some (.int .i64 (a : Int)) ∧ w.cell? ⟨gp, 1, none⟩ = some (.int .i64 (b : Int)) ∧ w.cell? ⟨go, a, none⟩ = some v :=
  ⟨(row2 h.row).1, (row2 h.row).2, h.cel⟩
theorem Ai.put (h : Ai W n go gs gp a b cs P v l w) {k : Nat} {v' : Value} (ha : a < cn n) (hbn : b < cn n) (hv : NmJ w go v' (Lat.insN k b l)) (h1 : ∀ i (h : i < l.length), i < k → l[i] < b) (h2 : ∀ h : k < l.length, b < l[k]) (hk : k ≤ l.length) : Ar W n go (P ++ [(a, b)]) (w.setCell ⟨go, a, none⟩ v') ∧ Row (w.setCell ⟨go, a, none⟩ v') gs 127 cs :=
  ⟨h.ar.put ha hbn hv h.nb h1 h2 hk, h.tab.far (p := ⟨go, a, none⟩) (fun e => h.tn e.symm) v'⟩
theorem bel_drewN (w : World) (k : Nat) : Below w.heap.size w (w.drewN k) := ⟨rfl, rfl, rfl, Nat.le_refl _, fun _ _ => rfl⟩
theorem bel_drew (w : World) : Below w.heap.size w w.drew := ⟨rfl, rfl, rfl, Nat.le_refl _, fun _ _ => rfl⟩
end
theorem prq_cells {w : World} {gs x y z : Nat} {e : TypeId} (h : Row w gs e #[.int .i64 (x : Int), .int .i64 (y : Int), .int .i64 (x : Int), .int .i64 (z : Int), .int .i64 (y : Int), .int .i64 (z : Int), .int .i64 (y : Int), .int .i64 (x : Int), .int .i64 (z : Int), .int .i64 (x : Int), .int .i64 (z : Int), .int .i64 (y : Int)]) {i : Nat} (hi : i < 6) :
    ∃ a b, w.cell? ⟨gs, i * 2, none⟩ = some (.int .i64 (a : Nat)) ∧ w.cell? ⟨gs, i * 2 + 1, none⟩ = some (.int .i64 (b : Nat)) ∧ (Lat.prq (x, y, z)).take (i + 1) = (Lat.prq (x, y, z)).take i ++ [(a, b)] ∧ (a = x ∨ a = y ∨ a = z) ∧ (b = x ∨ b = y ∨ b = z) := by
  rcases (show i = 0 ∨ i = 1 ∨ i = 2 ∨ i = 3 ∨ i = 4 ∨ i = 5 by omega) with rfl | rfl | rfl | rfl | rfl | rfl
  · exact ⟨x, y, (h.cell 0).trans rfl, (h.cell 1).trans rfl, rfl, .inl rfl, .inr (.inl rfl)⟩
  · exact ⟨x, z, (h.cell 2).trans rfl, (h.cell 3).trans rfl, rfl, .inl rfl, .inr (.inr rfl)⟩
  · exact ⟨y, z, (h.cell 4).trans rfl, (h.cell 5).trans rfl, rfl, .inr (.inl rfl), .inr (.inr rfl)⟩
  · exact ⟨y, x, (h.cell 6).trans rfl, (h.cell 7).trans rfl, rfl, .inr (.inl rfl), .inl rfl⟩
  · exact ⟨z, x, (h.cell 8).trans rfl, (h.cell 9).trans rfl, rfl, .inr (.inr rfl), .inl rfl⟩
  · exact ⟨z, y, (h.cell 10).trans rfl, (h.cell 11).trans rfl, rfl, .inr (.inr rfl), .inr (.inl rfl)⟩
/-- The pairs of some cells and of a part of one more. -/
theorem flat_take_succ {L : List Lat.Tr} {k : Nat} (hk : k < L.length) : (L.take (k + 1)).flatMap Lat.prq = (L.take k).flatMap Lat.prq ++ Lat.prq L[k] := by
  rw [List.take_succ_eq_append_getElem hk, List.flatMap_append]
  simp
end Go.Proofs.YtejoabaanclcbaaGreat


