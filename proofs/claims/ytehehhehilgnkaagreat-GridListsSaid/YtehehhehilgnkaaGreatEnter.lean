/- The contract of enter. -/
import Derived.Test.YtehehhehilgnkaaGreatMk
import Derived.RegionTactic
import Derived.BigRegion
import Derived.Deep.RegionHeld3
import Derived.IntWalk
namespace Go.Proofs.YtehehhehilgnkaaGreat
open Go.RowKit Go.Maps

theorem i8_in {x : Nat} (h : x ≤ 8) : IntKind.i8.wrap (x : Int) = (x : Int) := by
  have : x = 0 ∨ x = 1 ∨ x = 2 ∨ x = 3 ∨ x = 4 ∨ x = 5 ∨ x = 6 ∨ x = 7 ∨ x = 8 := by omega
  rcases this with rfl | rfl | rfl | rfl | rfl | rfl | rfl | rfl | rfl <;> decide
theorem mul_in {x : Nat} {q : Int} (_h0 : 0 ≤ (x : Int)) (h8 : x ≤ 8) (q0 : 0 ≤ q) (q1 : q ≤ 840) : IntKind.i64.wrap ((x : Int) * q) = (x : Int) * q := by
  have a : (x : Int) * q ≤ 8 * 840 := Int.mul_le_mul (by omega) q1 q0 (by omega)
  have b : 0 ≤ (x : Int) * q := Int.mul_nonneg (by omega) q0
  exact IntWalk.i64_in _ (by omega)
set_option maxRecDepth 100000 in
set_option maxHeartbeats 4000000 in
theorem enter_in (W : World) (n gl gm f a b c : Nat) (rv : List Lat.Pt) (cnt : Nat) (bor ix : List (Nat × Nat)) (w : World) (h : Mk W n gl gm rv cnt bor ix w)
    (hf : f < 20) (ha : a ≤ 8) (hb : b ≤ 8) (hc : c ≤ 8) (hn : a + b + c = n) (a0 : 0 < a) (b0 : 0 < b) (c0 : 0 < c) (hcnt : cnt ≤ 100000) :
    Calls Tryz.prog 35 #[.pointer (some ⟨gl, 0, none⟩), .agg #[.int .i64 f, .int .i64 a, .int .i64 b, .int .i64 c], .map (some gm)] w fun e w' => e = .returned (.int .i64 cnt) ∧ Mk W n gl gm ((f, a, b) :: rv) (cnt + 1) bor ix w' := by
  obtain ⟨i0, hi, hz0, hz1, hz2⟩ := info_parts infoPlace
  have h1 := h.alloc (.cells #[.int .i64 f, .int .i64 a, .int .i64 b, .int .i64 c] 79)
  obtain ⟨cs, g, cap, l1, l2, l3, l4, l5⟩ := h1.lat
  have c0' : (w.alloc (.cells #[.int .i64 f, .int .i64 a, .int .i64 b, .int .i64 c] 79)).cell? ⟨gl, 0, none⟩ = some (.slice (some ⟨g, 0, none⟩) cnt cap) := (l1.cell 0).trans l3
  have za : ((a : Int) == 0) = false := beq_eq_false_iff_ne.2 (by omega)
  have zb : ((b : Int) == 0) = false := beq_eq_false_iff_ne.2 (by omega)
  have zc : ((c : Int) == 0) = false := beq_eq_false_iff_ne.2 (by omega)
  have hgl := h.ltl
  have HN := Lib.hid hn; clear hn
  have H1 := Lib.hid h1; clear h1 h l2 l5
  have L1 := Lib.hid l1; clear l1
  have L4 := Lib.hid l4; clear l4
  go_enter Tryz.func35, Tryz.ntmps35
  go_upto_region 9 with fail
  have hq : (840 : Int) / (↑a + ↑b + ↑c) = ((840 / n : Nat) : Int) := by rw [← HN.out]; simp
  have hq0 : 0 ≤ (840 : Int) / (↑a + ↑b + ↑c) ∧ (840 : Int) / (↑a + ↑b + ↑c) ≤ 840 := by
    rw [hq]
    have := Nat.div_le_self 840 n
    generalize 840 / n = t at *
    omega
  have HQ := Lib.hid hq; clear hq
  generalize hqq : (840 : Int) / (↑a + ↑b + ↑c) = q at *
  clear hqq
  obtain ⟨q0, q1⟩ := hq0
  have w1 : IntKind.i64.wrap ((a : Int) * q) = (a : Int) * q := mul_in (by omega) ha q0 q1
  have w2 : IntKind.i64.wrap ((b : Int) * q) = (b : Int) * q := mul_in (by omega) hb q0 q1
  have w3 : IntKind.i64.wrap ((c : Int) * q) = (c : Int) * q := mul_in (by omega) hc q0 q1
  refine forget (fun Y => Mk W n gl gm rv cnt bor ix Y ∧ (∃ cs, Row Y gl 51 cs ∧ cs[0]? = some (.slice (some ⟨g, 0, none⟩) cnt cap)) ∧ Y.ownsRow W.heap.size 32 4 (.slice (some ⟨g, 0, none⟩) cnt cap) cnt (ncs n rv.reverse) ∧
    Row Y w.heap.size 79 #[.int .i64 f, .int .i64 a, .int .i64 b, .int .i64 c]) ⟨H1.out, ⟨cs, L1.out, l3⟩, L4.out, Row.new _ _ _⟩ ?_
  clear L1 l3 H1 L4 c0'
  generalize w.heap.size = gp at *
  rintro Y ⟨h1, ⟨cs, l1, l3⟩, l4, r⟩
  obtain ⟨p0, p1, p2, p3⟩ := row4 r
  have c0' : Y.cell? ⟨gl, 0, none⟩ = some (.slice (some ⟨g, 0, none⟩) cnt cap) := (l1.cell 0).trans l3
  have egp : gl ≠ gp := fun e => by subst e; have := l1.symm.trans r; injection this with this; injection this with _ t; exact absurd t (by decide)
  have HX : Hid (∀ (o : Obj) (x : World), (Y.alloc o).drew.grownBy x (some g) → x.cell? ⟨gl, 0, none⟩ = some (.slice (some ⟨g, 0, none⟩) cnt cap) ∧ x.frozen? ⟨gl, 0, none⟩ = false ∧
      x.cell? ⟨gp, 0, none⟩ = some (.int .i64 f) ∧ x.cell? ⟨gp, 1, none⟩ = some (.int .i64 a) ∧ x.cell? ⟨gp, 2, none⟩ = some (.int .i64 b) ∧ x.cell? ⟨gp, 3, none⟩ = some (.int .i64 c)) := Lib.hid (fun o x hx => by
    have k : Row (Y.alloc o).drew gl 51 cs := (l1.alloc o).drew
    have k2 := k.grown hx (own_ne (w := (Y.alloc o).drew) ((l4.alloc o)) k (by decide))
    have m : Row (Y.alloc o).drew gp 79 _ := (r.alloc o).drew
    exact ⟨(k2.cell 0).trans l3, k2.thaw 0, row4 (m.grown hx (own_ne (w := (Y.alloc o).drew) ((l4.alloc o)) m (by decide)))⟩)
  have PA : Hid (∀ o : Obj, (Y.alloc o).drew.cell? ⟨gp, 0, none⟩ = some (.int .i64 f) ∧ (Y.alloc o).drew.cell? ⟨gp, 1, none⟩ = some (.int .i64 a) ∧ (Y.alloc o).drew.cell? ⟨gp, 2, none⟩ = some (.int .i64 b) ∧ (Y.alloc o).drew.cell? ⟨gp, 3, none⟩ = some (.int .i64 c)) := Lib.hid (fun o => row4 (r.alloc o).drew)
  have H1 := Lib.hid h1; clear h1 l1 l3 r
  have L4 := Lib.hid l4; clear l4
  refine wp_region_held_drew (S := (fun w' : World => w'.cell? ⟨gp, 0, none⟩ = some (.int .i64 f) ∧ w'.cell? ⟨gp, 1, none⟩ = some (.int .i64 a) ∧ w'.cell? ⟨gp, 2, none⟩ = some (.int .i64 b) ∧ w'.cell? ⟨gp, 3, none⟩ = some (.int .i64 c))) (by kernel_rfl) ⟨p0, p1, p2, p3⟩ (fun hHeld => ?_)
  refine wpAnyH_take (i := 0) (v := ?_) rfl (by kernel_rfl) (by kernel_rfl) (by kernel_rfl) (fun _ _ _ h => h) (Or.inl ⟨by rfl, ?_⟩) (by assumption) ?_
  case refine_2 => (intro wx hSx; (try dsimp only at hSx); go_simp; first | done | with_reducible rfl)
  try simp only [Act.put, List.setIfInBounds_toArray, List.set_cons_zero, List.set_cons_succ]
  refine wpAnyH_take (i := 1) (v := ?_) rfl (by kernel_rfl) (by kernel_rfl) (by kernel_rfl) (fun _ _ _ h => h) (Or.inl ⟨by rfl, ?_⟩) (by assumption) ?_
  case refine_2 => (intro wx hSx; (try dsimp only at hSx); go_simp; first | done | with_reducible rfl)
  try simp only [Act.put, List.setIfInBounds_toArray, List.set_cons_zero, List.set_cons_succ]
  refine wpAnyH_take (i := 2) (v := ?_) rfl (by kernel_rfl) (by kernel_rfl) (by kernel_rfl) (fun _ _ _ h => h) (Or.inl ⟨by rfl, ?_⟩) (by assumption) ?_
  case refine_2 => (intro wx hSx; (try dsimp only at hSx); go_simp; first | done | with_reducible rfl)
  try simp only [Act.put, List.setIfInBounds_toArray, List.set_cons_zero, List.set_cons_succ]
  refine wpAnyH_take (i := 3) (v := ?_) rfl (by kernel_rfl) (by kernel_rfl) (by kernel_rfl) (fun _ _ _ h => h) (Or.inl ⟨by rfl, ?_⟩) (by assumption) ?_
  case refine_2 => (intro wx hSx; (try dsimp only at hSx); go_simp; first | done | with_reducible rfl)
  try simp only [Act.put, List.setIfInBounds_toArray, List.set_cons_zero, List.set_cons_succ]
  refine wpAnyH_take (i := 5) (v := ?_) rfl (by kernel_rfl) (by kernel_rfl) (by kernel_rfl) (fun _ _ _ h => h) (Or.inl ⟨by rfl, ?_⟩) (by assumption) ?_
  case refine_2 => (intro wx hSx; (try dsimp only at hSx); go_simp; first | done | with_reducible rfl)
  try simp only [Act.put, List.setIfInBounds_toArray, List.set_cons_zero, List.set_cons_succ]
  refine wpAnyH_take (i := 6) (v := ?_) rfl (by kernel_rfl) (by kernel_rfl) (by kernel_rfl) (fun _ _ _ h => h) (Or.inl ⟨by rfl, ?_⟩) (by assumption) ?_
  case refine_2 => (intro wx hSx; (try dsimp only at hSx); go_simp; first | done | with_reducible rfl)
  try simp only [Act.put, List.setIfInBounds_toArray, List.set_cons_zero, List.set_cons_succ]
  refine wpAnyH_take (i := 7) (v := ?_) rfl (by kernel_rfl) (by kernel_rfl) (by kernel_rfl) (fun _ _ _ h => h) (Or.inl ⟨by rfl, ?_⟩) (by assumption) ?_
  case refine_2 => (intro wx hSx; (try dsimp only at hSx); go_simp; first | done | with_reducible rfl)
  try simp only [Act.put, List.setIfInBounds_toArray, List.set_cons_zero, List.set_cons_succ]
  refine wpAnyH_take (i := 8) (v := ?_) rfl (by kernel_rfl) (by kernel_rfl) (by kernel_rfl) (fun _ _ _ h => h) (Or.inl ⟨by rfl, ?_⟩) (by assumption) ?_
  case refine_2 => (intro wx hSx; (try dsimp only at hSx); go_simp; first | done | with_reducible rfl)
  try simp only [Act.put, List.setIfInBounds_toArray, List.set_cons_zero, List.set_cons_succ]
  refine wpAnyH_take (i := 9) (v := ?_) rfl (by kernel_rfl) (by kernel_rfl) (by kernel_rfl) (fun _ _ _ h => h) (Or.inl ⟨by rfl, ?_⟩) (by assumption) ?_
  case refine_2 => (intro wx hSx; (try dsimp only at hSx); go_simp; first | done | with_reducible rfl)
  try simp only [Act.put, List.setIfInBounds_toArray, List.set_cons_zero, List.set_cons_succ]
  refine wpAnyH_take (i := 10) (v := ?_) rfl (by kernel_rfl) (by kernel_rfl) (by kernel_rfl) (fun _ _ _ h => h) (Or.inl ⟨by rfl, ?_⟩) (by assumption) ?_
  case refine_2 => (intro wx hSx; (try dsimp only at hSx); go_simp; first | done | with_reducible rfl)
  try simp only [Act.put, List.setIfInBounds_toArray, List.set_cons_zero, List.set_cons_succ]
  refine wpAnyH_take (i := 11) (v := ?_) rfl (by kernel_rfl) (by kernel_rfl) (by kernel_rfl) (fun _ _ _ h => h) (Or.inl ⟨by rfl, ?_⟩) (by assumption) ?_
  case refine_2 => (intro wx hSx; (try dsimp only at hSx); go_simp; first | done | with_reducible rfl)
  try simp only [Act.put, List.setIfInBounds_toArray, List.set_cons_zero, List.set_cons_succ]
  refine wpAnyH_take (i := 12) (v := ?_) rfl (by kernel_rfl) (by kernel_rfl) (by kernel_rfl) (fun _ _ _ h => h) (Or.inl ⟨by rfl, ?_⟩) (by assumption) ?_
  case refine_2 => (intro wx hSx; (try dsimp only at hSx); go_simp; first | done | with_reducible rfl)
  try simp only [Act.put, List.setIfInBounds_toArray, List.set_cons_zero, List.set_cons_succ]
  refine wpAnyH_take (i := 13) (v := ?_) rfl (by kernel_rfl) (by kernel_rfl) (by kernel_rfl) (fun _ _ _ h => h) (Or.inl ⟨by rfl, ?_⟩) (by assumption) ?_
  case refine_2 => (intro wx hSx; (try dsimp only at hSx); go_simp; first | done | with_reducible rfl)
  try simp only [Act.put, List.setIfInBounds_toArray, List.set_cons_zero, List.set_cons_succ]
  refine wpAnyH_take (i := 14) (v := ?_) rfl (by kernel_rfl) (by kernel_rfl) (by kernel_rfl) (fun _ _ _ h => h) (Or.inl ⟨by rfl, ?_⟩) (by assumption) ?_
  case refine_2 => (intro wx hSx; (try dsimp only at hSx); go_simp; first | done | with_reducible rfl)
  try simp only [Act.put, List.setIfInBounds_toArray, List.set_cons_zero, List.set_cons_succ]
  refine wpAnyH_take (i := 15) (v := ?_) rfl (by kernel_rfl) (by kernel_rfl) (by kernel_rfl) (fun _ _ _ h => h) (Or.inl ⟨by rfl, ?_⟩) (by assumption) ?_
  case refine_2 => (intro wx hSx; (try dsimp only at hSx); go_simp; first | done | with_reducible rfl)
  try simp only [Act.put, List.setIfInBounds_toArray, List.set_cons_zero, List.set_cons_succ]
  refine wpAnyH_take (i := 16) (v := ?_) rfl (by kernel_rfl) (by kernel_rfl) (by kernel_rfl) (fun _ _ _ h => h) (Or.inl ⟨by rfl, ?_⟩) (by assumption) ?_
  case refine_2 => (intro wx hSx; (try dsimp only at hSx); go_simp; first | done | with_reducible rfl)
  try simp only [Act.put, List.setIfInBounds_toArray, List.set_cons_zero, List.set_cons_succ]
  refine wpAnyH_take (i := 17) (v := ?_) rfl (by kernel_rfl) (by kernel_rfl) (by kernel_rfl) (fun _ _ _ h => h) (Or.inl ⟨by rfl, ?_⟩) (by assumption) ?_
  case refine_2 => (intro wx hSx; (try dsimp only at hSx); go_simp; first | done | with_reducible rfl)
  try simp only [Act.put, List.setIfInBounds_toArray, List.set_cons_zero, List.set_cons_succ]
  refine wpAnyH_take (i := 18) (v := ?_) rfl (by kernel_rfl) (by kernel_rfl) (by kernel_rfl) (fun _ _ _ h => h) (Or.inl ⟨by rfl, ?_⟩) (by assumption) ?_
  case refine_2 => (intro wx hSx; (try dsimp only at hSx); go_simp; first | done | with_reducible rfl)
  try simp only [Act.put, List.setIfInBounds_toArray, List.set_cons_zero, List.set_cons_succ]
  refine wpAnyH_take (i := 19) (v := ?_) rfl (by kernel_rfl) (by kernel_rfl) (by kernel_rfl) (fun _ _ _ h => h) (Or.inl ⟨by rfl, ?_⟩) (by assumption) ?_
  case refine_2 => (intro wx hSx; (try dsimp only at hSx); go_simp; first | done | with_reducible rfl)
  try simp only [Act.put, List.setIfInBounds_toArray, List.set_cons_zero, List.set_cons_succ]
  refine wpAnyH_ready (rs := [4, 20]) (by kernel_rfl) (by simp) ?_
  refine AllReadyH.cons rfl (fun K hK => ?_) (AllReadyH.cons rfl (fun K hK => ?_) AllReadyH.nil)
  · go_simp
    refine hK.out _ _ ⟨p0, p1, p2, p3⟩ (fun hHeld2 => ?_)
    clear hK K hHeld
    try simp only [Act.put, List.setIfInBounds_toArray, List.set_cons_zero, List.set_cons_succ]
    refine wpAnyH_ready (rs := [20]) (by kernel_rfl) (by simp) ?_
    refine AllReadyH.cons rfl (fun K hK => ?_) AllReadyH.nil
    go_simp
    refine hK.out _ _ (PA.out _) (fun hHeld => ?_)
    clear hK K hHeld2
    try simp only [Act.put, List.setIfInBounds_toArray, List.set_cons_zero, List.set_cons_succ]
    refine wpAnyH_ready (rs := [21]) (by kernel_rfl) (by simp) ?_
    refine AllReadyH.cons rfl (fun K hK => ?_) AllReadyH.nil
    refine step_append_lies _ (by rfl) _ _ _ (by rfl) W.heap.size 32 i0 _ 4 32 Tryz.underlying24 hi hz0 hz1 hz2 rfl (by decide) (.slice (some ⟨g, 0, none⟩) cnt cap) cnt (ncs n rv.reverse) (by rfl) ((L4.out.alloc _).drew) ⟨Y.heap.size, 0, none⟩ 1 1 [.int .i64 f, .int .i64 ((a : Int) * q), .int .i64 ((b : Int) * q), .int .i64 ((c : Int) * q)] (by rfl) (by rfl) (World.news_of_block (cs := #[.int .i64 f, .int .i64 ((a : Int) * q), .int .i64 ((b : Int) * q), .int .i64 ((c : Int) * q)]) (t := 32) (fr := (0, 0)) (heap_alloc_new Y _)) (by simp [Value.oneCell']) (by omega) (by unfold maxLen; omega) (by omega) (by have := H1.out.below.size; simp; omega) (Y.heap.size + 1) (by simp) ?_
    intro g' cap' x hown1 hgrow hat hlt
    obtain ⟨k1, k2, k3, k4, k5, k6⟩ := HX.out _ _ hgrow
    refine hK.out _ _ ?_ (fun hHeld2 => ?_)
    · exact ⟨k3, k4, k5, k6⟩
    clear hK K hHeld
    try simp only [Act.put, List.setIfInBounds_toArray, List.set_cons_zero, List.set_cons_succ]
    refine wpAnyH_take (i := 22) (v := ?_) rfl (by kernel_rfl) (by kernel_rfl) (by kernel_rfl) (fun _ _ _ h => h) (Or.inl ⟨by rfl, ?_⟩) (by assumption) ?_
    case refine_2 => (intro wx hSx; (try dsimp only at hSx); go_simp; first | done | with_reducible rfl)
    try simp only [Act.put, List.setIfInBounds_toArray, List.set_cons_zero, List.set_cons_succ]
    refine wpAnyH_take (i := 23) (v := ?_) rfl (by kernel_rfl) (by kernel_rfl) (by kernel_rfl) (fun _ _ _ h => h) (Or.inl ⟨by rfl, ?_⟩) (by assumption) ?_
    case refine_2 => (intro wx hSx; (try dsimp only at hSx); go_simp; first | done | with_reducible rfl)
    try simp only [Act.put, List.setIfInBounds_toArray, List.set_cons_zero, List.set_cons_succ]
    refine wpAnyH_ready (rs := [24]) (by kernel_rfl) (by simp) ?_
    refine AllReadyH.cons rfl (fun K hK => ?_) AllReadyH.nil
    go_simp
    refine hK.out _ _ ?_ (fun hHeld => ?_)
    · exact ⟨by rw [World.cell?_setCell_far _ _ _ _ egp]; exact k3, by rw [World.cell?_setCell_far _ _ _ _ egp]; exact k4, by rw [World.cell?_setCell_far _ _ _ _ egp]; exact k5, by rw [World.cell?_setCell_far _ _ _ _ egp]; exact k6⟩
    clear hK K hHeld hHeld2
    try simp only [Act.put, List.setIfInBounds_toArray, List.set_cons_zero, List.set_cons_succ]
    refine wpAnyH_done (by kernel_rfl) ?_ _
    go_wp2_with fail
    go_ret
    refine ⟨rfl, ?_⟩
    have hnc : nc n (f, a, b) = [.int .i64 f, .int .i64 ((a : Int) * q), .int .i64 ((b : Int) * q), .int .i64 ((c : Int) * q)] := by
      rw [HQ.out]; simp [nc, wd, ← HN.out, show a + b + c - a - b = c by omega]
    exact (H1.out.alloc _).drew.grow ((L4.out.alloc _).drew) (by rw [hnc]; exact hown1) hgrow
  · go_simp
    refine hK.out _ _ (PA.out _) (fun hHeld2 => ?_)
    clear hK K hHeld
    try simp only [Act.put, List.setIfInBounds_toArray, List.set_cons_zero, List.set_cons_succ]
    refine wpAnyH_ready (rs := [4]) (by kernel_rfl) (by simp) ?_
    refine AllReadyH.cons rfl (fun K hK => ?_) AllReadyH.nil
    have ca : ∀ o : Obj, (Y.alloc o).cell? ⟨gl, 0, none⟩ = some (.slice (some ⟨g, 0, none⟩) cnt cap) := fun o => (World.cell?_alloc_some Y _ o (by rw [c0']; rfl)).trans c0'
    go_simp
    refine hK.out _ _ (PA.out _) (fun hHeld => ?_)
    clear hK K hHeld2
    try simp only [Act.put, List.setIfInBounds_toArray, List.set_cons_zero, List.set_cons_succ]
    refine wpAnyH_ready (rs := [21]) (by kernel_rfl) (by simp) ?_
    refine AllReadyH.cons rfl (fun K hK => ?_) AllReadyH.nil
    refine step_append_lies _ (by rfl) _ _ _ (by rfl) W.heap.size 32 i0 _ 4 32 Tryz.underlying24 hi hz0 hz1 hz2 rfl (by decide) (.slice (some ⟨g, 0, none⟩) cnt cap) cnt (ncs n rv.reverse) (by rfl) ((L4.out.alloc _).drew) ⟨Y.heap.size, 0, none⟩ 1 1 [.int .i64 f, .int .i64 ((a : Int) * q), .int .i64 ((b : Int) * q), .int .i64 ((c : Int) * q)] (by rfl) (by rfl) (World.news_of_block (cs := #[.int .i64 f, .int .i64 ((a : Int) * q), .int .i64 ((b : Int) * q), .int .i64 ((c : Int) * q)]) (t := 32) (fr := (0, 0)) (heap_alloc_new Y _)) (by simp [Value.oneCell']) (by omega) (by unfold maxLen; omega) (by omega) (by have := H1.out.below.size; simp; omega) (Y.heap.size + 1) (by simp) ?_
    intro g' cap' x hown1 hgrow hat hlt
    obtain ⟨k1, k2, k3, k4, k5, k6⟩ := HX.out _ _ hgrow
    refine hK.out _ _ ?_ (fun hHeld2 => ?_)
    · exact ⟨k3, k4, k5, k6⟩
    clear hK K hHeld
    try simp only [Act.put, List.setIfInBounds_toArray, List.set_cons_zero, List.set_cons_succ]
    refine wpAnyH_take (i := 22) (v := ?_) rfl (by kernel_rfl) (by kernel_rfl) (by kernel_rfl) (fun _ _ _ h => h) (Or.inl ⟨by rfl, ?_⟩) (by assumption) ?_
    case refine_2 => (intro wx hSx; (try dsimp only at hSx); go_simp; first | done | with_reducible rfl)
    try simp only [Act.put, List.setIfInBounds_toArray, List.set_cons_zero, List.set_cons_succ]
    refine wpAnyH_take (i := 23) (v := ?_) rfl (by kernel_rfl) (by kernel_rfl) (by kernel_rfl) (fun _ _ _ h => h) (Or.inl ⟨by rfl, ?_⟩) (by assumption) ?_
    case refine_2 => (intro wx hSx; (try dsimp only at hSx); go_simp; first | done | with_reducible rfl)
    try simp only [Act.put, List.setIfInBounds_toArray, List.set_cons_zero, List.set_cons_succ]
    refine wpAnyH_ready (rs := [24]) (by kernel_rfl) (by simp) ?_
    refine AllReadyH.cons rfl (fun K hK => ?_) AllReadyH.nil
    go_simp
    refine hK.out _ _ ?_ (fun hHeld => ?_)
    · exact ⟨by rw [World.cell?_setCell_far _ _ _ _ egp]; exact k3, by rw [World.cell?_setCell_far _ _ _ _ egp]; exact k4, by rw [World.cell?_setCell_far _ _ _ _ egp]; exact k5, by rw [World.cell?_setCell_far _ _ _ _ egp]; exact k6⟩
    clear hK K hHeld hHeld2
    try simp only [Act.put, List.setIfInBounds_toArray, List.set_cons_zero, List.set_cons_succ]
    refine wpAnyH_done (by kernel_rfl) ?_ _
    go_wp2_with fail
    go_ret
    refine ⟨rfl, ?_⟩
    have hnc : nc n (f, a, b) = [.int .i64 f, .int .i64 ((a : Int) * q), .int .i64 ((b : Int) * q), .int .i64 ((c : Int) * q)] := by
      rw [HQ.out]; simp [nc, wd, ← HN.out, show a + b + c - a - b = c by omega]
    exact (H1.out.alloc _).drew.grow ((L4.out.alloc _).drew) (by rw [hnc]; exact hown1) hgrow
end Go.Proofs.YtehehhehilgnkaaGreat

