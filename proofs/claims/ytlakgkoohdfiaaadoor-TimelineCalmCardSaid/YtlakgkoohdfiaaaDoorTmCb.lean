/- The walk of TimelineCalm. -/
import Derived.Test.YtlakgkoohdfiaaaDoorTmCa
import Derived.Test.YtlakgkoohdfiaaaDoorQar
import Derived.Test.YtlakgkoohdfiaaaDoorQak
namespace Go.Proofs.YtlakgkoohdfiaaaDoor.Tm
open Go.RowKit Go.Great

theorem set_grown (w : World) (g j : Nat) (x : Value) : w.grownBy (w.setCell ⟨g, j, none⟩ x) (some g) :=
  ⟨rfl, rfl, rfl, by simp [World.setCell], fun i _ hne => Below.heap_setCell _ _ _ _ (fun e => hne (by rw [show i = g from e]))⟩
/-- The control that a law writes. -/
structure Cw (W : World) (b gc : Nat) (cs : Array Value) (S P : Int → Int) (Y : World) : Prop where
  src : Src W b Y
  box : Row Y gc 67 cs
  ct : CtB cs S P
  hb : b < gc
  hW : W.heap.size ≤ gc
theorem Cw.step {W Y Y' : World} {b gc : Nat} {cs : Array Value} {S P : Int → Int} (h : Cw W b gc cs S P Y) (hs : Src W b Y') (hg : Y.grownBy Y' (some b)) : Cw W b gc cs S P Y' :=
  ⟨hs, h.box.grown hg (fun e => by injection e with e; have := h.hb; omega), h.ct, h.hb, h.hW⟩
theorem Cw.setS {W Y : World} {b gc : Nat} {cs : Array Value} {S P : Int → Int} (h : Cw W b gc cs S P Y) {c : Nat} (hc : c < 12) {x : Int} (h0 : 0 ≤ x) (h1 : x ≤ 10000) : Cw W b gc (cs.setIfInBounds (1 + c) (.int .i64 x)) (fun j => if j = (c : Int) then x else S j) P (Y.setCell ⟨gc, 1 + c, none⟩ (.int .i64 x)) :=
  ⟨El.src_kept h.src (set_grown _ _ _ _) (fun e => by injection e with e; have := h.hb; omega) (fun i e => by injection e with e; have := h.hW; omega), h.box.put _ _, h.ct.setS hc h0 h1, h.hb, h.hW⟩
theorem Cw.setP {W Y : World} {b gc : Nat} {cs : Array Value} {S P : Int → Int} (h : Cw W b gc cs S P Y) {c : Nat} (hc : c < 12) {x : Int} (h0 : 0 ≤ x) (h1 : x ≤ 10000) : Cw W b gc (cs.setIfInBounds (13 + c) (.int .i64 x)) S (fun j => if j = (c : Int) then x else P j) (Y.setCell ⟨gc, 13 + c, none⟩ (.int .i64 x)) :=
  ⟨El.src_kept h.src (set_grown _ _ _ _) (fun e => by injection e with e; have := h.hb; omega) (fun i e => by injection e with e; have := h.hW; omega), h.box.put _ _, h.ct.setP hc h0 h1, h.hb, h.hW⟩
theorem Cw.kept {W Y Y' : World} {b gc : Nat} {r : Option Nat} {cs : Array Value} {S P : Int → Int} (h : Cw W b gc cs S P Y) (hg : Y.grownBy Y' r) (h1 : ∀ i, r = some i → gc < i) : Cw W b gc cs S P Y' :=
  ⟨El.src_kept h.src hg (fun e => by have := h1 _ e; have := h.hb; omega) (fun i e => by have := h1 _ e; have := h.hW; omega), h.box.grown hg (fun e => by have := h1 _ e.symm; omega), h.ct, h.hb, h.hW⟩
theorem Cw.under {W Y Y' : World} {b gc : Nat} {cs : Array Value} {S P : Int → Int} (h : Cw W b gc cs S P Y) (hb : Below Y.heap.size Y Y') : Cw W b gc cs S P Y' := h.kept (grown_below (r := none) hb) (fun i e => by cases e)
/-- A list of reports that stands, whatever is written below it. -/
structure Lst (w0 : World) (Q : List Rp) (v : Value) (Y : World) : Prop where
  own : Y.ownsRow w0.heap.size 38 8 v Q.length (rpc Q)
  rds : ∀ q ∈ Q, Y.ownsRow w0.heap.size 81 2 q.u q.L.length (El.rdc q.L)
theorem Lst.kept {w0 Y Y' : World} {Q : List Rp} {v : Value} {r : Option Nat} (h : Lst w0 Q v Y) (hg : Y.grownBy Y' r) (hr : ∀ i, r = some i → i < w0.heap.size) : Lst w0 Q v Y' :=
  ⟨own_heap h.own (fun i hi => hg.block i (row_size h.own hi) (fun e => by have := hr i e.symm; have := row_base h.own hi; omega)),
    fun q hq => own_heap (h.rds q hq) (fun i hi => hg.block i (row_size (h.rds q hq) hi) (fun e => by have := hr i e.symm; have := row_base (h.rds q hq) hi; omega))⟩
theorem Lst.under {w0 Y Y' : World} {Q : List Rp} {v : Value} (h : Lst w0 Q v Y) (hb : Below Y.heap.size Y Y') : Lst w0 Q v Y' := h.kept (grown_below (r := none) hb) (fun i e => by cases e)
theorem Lst.ins {w0 Y : World} {Q : List Rp} {v : Value} (h : Lst w0 Q v Y) : RpsIn Y v Q := RpsIn.own h.own (fun q hq => El.RdIn.own (h.rds q hq))
theorem Clm.nil (n : Int) (p tm : Nat → Int) : Clm n p tm [] := ⟨fun j h => absurd h (Nat.not_lt_zero j), fun _i j _ h => absurd h (Nat.not_lt_zero j), fun _j h => absurd h (Nat.not_lt_zero _), fun j h => absurd h (Nat.not_lt_zero j)⟩
/-- What the next report must keep. -/
def Nxt (n : Int) (p tm : Nat → Int) (k : Nat) (va mi : Int) : Prop := ∀ j, j + 1 = k → tm j < mi ∧ va - p j ≤ n * ((mi - tm j + 59) / 60) ∧ p j - va ≤ n * ((mi - tm j + 59) / 60)
theorem Clm.snoc {n : Int} {p tm : Nat → Int} {Q : List Rp} (h : Clm n p tm Q) {va mi : Int} (hx : Nxt n p tm Q.length va mi) (hb : (9000 ≤ va ∧ va ≤ 10900) ∧ 0 ≤ mi ∧ mi ≤ 52595999) (u : Value) :
    ∃ p' tm', Clm n p' tm' (Q ++ [⟨1, nmA, mi, 0, 0, 0, 0, u, [((1 : Int), va), ((2 : Int), (2800 : Int))]⟩]) ∧ p' Q.length = va ∧ tm' Q.length = mi := by
  have key : ∀ {a : Nat → Int} {z : Int} {j : Nat}, j < Q.length → (if j < Q.length then a j else z) = a j := fun h => if_pos h
  have key2 : ∀ {a : Nat → Int} {z : Int}, (if Q.length < Q.length then a Q.length else z) = z := if_neg (Nat.lt_irrefl _)
  refine ⟨fun j => if j < Q.length then p j else va, fun j => if j < Q.length then tm j else mi, ⟨fun j hj => ?_, fun i j hij hj => ?_, fun j hj => ?_, fun j hj => ?_⟩, key2, key2⟩ <;> simp only [List.length_append, List.length_singleton] at hj
  · rcases (by omega : j < Q.length ∨ j = Q.length) with q | q
    · rw [List.getElem_append_left q]; simp only [key q]; exact h.at_ j q
    · subst q
      rw [List.getElem_append_right (Nat.le_refl _)]
      simp only [Nat.sub_self, List.getElem_singleton, key2]
      exact ⟨trivial, trivial, trivial⟩
  · rcases (by omega : j < Q.length ∨ j = Q.length) with q | q
    · simp only [key q, key (show i < Q.length by omega)]; exact h.asc i j hij q
    · subst q
      simp only [key hij, key2]
      have h1 := (hx (Q.length - 1) (by omega)).1
      rcases (by omega : i = Q.length - 1 ∨ i < Q.length - 1) with e | e
      · rw [e]; exact h1
      · exact Int.lt_trans (h.asc i (Q.length - 1) e (by omega)) h1
  · rcases (by omega : j + 1 < Q.length ∨ j + 1 = Q.length) with q | q
    · simp only [key q, key (show j < Q.length by omega)]; exact h.slow j q
    · simp only [q, key2, key (show j < Q.length by omega)]; exact (hx j q).2
  · rcases (by omega : j < Q.length ∨ j = Q.length) with q | q
    · simp only [key q]; exact h.bd j q
    · subst q; simp only [key2]; exact hb
set_option maxRecDepth 100000 in
set_option maxHeartbeats 8000000 in
theorem timelineCalm_any (l : Value) (step : Int) (W : World) (hT : El.Tab W) (hI : ListIn W l) (hc : I64 step) :
    Calls Tryd.prog 7 #[l, .int .i64 step] W fun e w' => e = .returned (.bool true) ∧ Below W.heap.size W w' := by
  obtain ⟨i0, hi0, hz0, hz1, hz2⟩ := info_parts infoReport
  go_enter Tryd.func7, Tryd.ntmps7
  go_wp2_with fail
  refine (new_any W l hI).mono ?_
  rintro e w1 ⟨rfl, hs1, -⟩
  obtain ⟨b, hb⟩ : ∃ b, W.heap.size = b := ⟨_, rfl⟩
  rw [hb] at hs1 ⊢
  have HGB := Lib.hid hb
  clear hb
  go_wp2_with fail
  refine (mod_any step 100 w1 hc (by decide) (by decide)).mono ?_
  rintro e _ ⟨rfl, rfl⟩
  obtain ⟨n, hn0⟩ : ∃ n, 1 + step % 100 = n := ⟨_, rfl⟩
  have hn1 : 1 ≤ n ∧ n ≤ 100 := by omega
  have hnw : IntKind.i64.wrap (1 + step % 100) = n := by rw [hn0]; exact IntWalk.i64_in _ (by omega)
  have hbl := src_lt hs1
  have I0 : Hid (Cw W b w1.heap.size cs0 P0 P0 (w1.alloc (.cells cs0 67))) := Lib.hid ⟨hs1.under ((Below.refl _ _).alloc (Nat.le_refl _) _), Row.new _ _ _, cs1_ok 0 0 0 0 0, hbl, hs1.below.size⟩
  clear hs1 hbl
  go_upto_region 4 with fail
  refine forget (fun Y => Hid (Cw W b w1.heap.size cs0 P0 P0 Y)) I0 ?_
  clear I0
  generalize w1.heap.size = gc at *
  rintro Y1 I1
  go_wp2_with fail
  go_loopw [8] (fun t wr => ∃ c : Nat, 1 ≤ c ∧ c ≤ 12 ∧ t = .int .i64 (c : Int) ∧ Hid (∃ cs S, Cw W b gc cs S P0 wr ∧ ∀ k : Int, 1 ≤ k → k < (c : Int) → S k = n)) (fun t _ => 12 - (intOf t).toNat)
  case atStart => exact ⟨1, by omega, by omega, rfl, Lib.hid ⟨_, _, I1.out, fun k h1 h2 => by omega⟩⟩
  case round =>
    clear I1
    obtain ⟨c, hc1, hc2, rfl, HCe⟩ := hrel
    by_cases hlt : c ≤ 11
    · have k0 : (c : Int) ≤ 11 := by omega
      have k1 : (0 : Int) ≤ (c : Int) := by omega
      have k2 : (c : Int) < 12 := by omega
      obtain ⟨cs, S, h, hS⟩ := HCe.out
      have H2 : Hid (∃ cs S, Cw W b gc cs S P0 (wr.setCell ⟨gc, 1 + c, none⟩ (.int .i64 n)) ∧ ∀ k : Int, 1 ≤ k → k < ((c + 1 : Nat) : Int) → S k = n) := Lib.hid ⟨_, _, h.setS (c := c) (by omega) (x := n) (by omega) (by omega), fun k h1 h2 => by
        by_cases e : k = (c : Int)
        · simp only [e, if_true]
        · simp only [e, if_false]; exact hS k h1 (by omega)⟩
      have q0 := (h.box.cell (1 + c)).trans (h.ct.ct.s c (by omega))
      have f0 := h.box.thaw (1 + c)
      clear h hS HCe
      go_wp2_with fail
      go_roundw
      case rel => exact ⟨c + 1, by omega, by omega, by go_num, H2⟩
      case measure => simp [intOf]; omega
    · obtain rfl : c = 12 := by omega
      have k0 : ¬ ((12 : Nat) : Int) ≤ 11 := by omega
      obtain ⟨cs, S, h, hS⟩ := HCe.out
      have H1 := Lib.hid h
      have HSn := Lib.hid (show S 1 = n ∧ S 2 = n from ⟨hS 1 (by omega) (by omega), hS 2 (by omega) (by omega)⟩)
      clear h hS HCe
      go_wp2_with fail
      refine (minute_any W b wr H1.out.src).mono ?_
      rintro e w4 ⟨x, ⟨x1, x2⟩, rfl, s4, g4⟩
      have H2 := Lib.hid (H1.out.step s4 g4)
      clear s4 g4 H1
      go_wp2_with fail
      refine (range_any W b w4 1 12 H2.out.src (by decide) (by decide) (by decide) (by decide)).mono ?_
      rintro e w5 ⟨z, ⟨z1, z2⟩, rfl, s5, g5⟩
      obtain ⟨z', rfl⟩ := Int.eq_ofNat_of_zero_le (by omega : 0 ≤ z)
      have H3 := Lib.hid (H2.out.step s5 g5)
      clear s5 g5 H2
      have O3 := Lib.hid (Ho.nil w5 (some b) (fun b' e => by injection e with e; have := src_lt H3.out.src; omega))
      have hgw : gc < w5.heap.size := H3.out.box.lt
      go_wp2_with fail
      go_loopw [9, 10, 11, 12] (fun v9 tv tm ti wr => ∃ (R : List Rp) (k : Nat) (va mi : Int), tv = .int .i64 va ∧ tm = .int .i64 mi ∧ ti = .int .i64 (k : Int) ∧ R.length + k ≤ 12 ∧ (9000 ≤ va ∧ va ≤ 10900) ∧ (0 ≤ mi ∧ mi ≤ 26297999 + 200 * (R.length : Int)) ∧ Hid (Cw W b gc cs S P0 wr) ∧ Hid (Ho w5 (some b) R v9 wr) ∧ Hid (∃ p tm, Clm n p tm R ∧ Nxt n p tm R.length va mi)) (fun _ _ _ ti _ => (intOf ti).toNat)
      case atStart => exact ⟨[], z', 10000, x / 2, rfl, rfl, rfl, by simp; omega, by omega, by simp; omega, H3, O3, Lib.hid ⟨fun _ => 0, fun _ => 0, Clm.nil _ _ _, fun j h => absurd h (Nat.succ_ne_zero j)⟩⟩
      case round =>
        clear H3 O3
        obtain ⟨R, k, va, mi, rfl, rfl, rfl, hRk, hva, hmi, HW, HO, HL⟩ := hrel
        by_cases hk : 0 < k
        · have k1 : (0 : Int) < (k : Int) := by omega
          have b2 := (Below.refl wr.heap.size wr).alloc (Nat.le_refl _) (.cells #[.int .i64 1, .int .i64 va, .int .i64 2, .int .i64 2800] 81)
          have Hu := rd_new wr [((1 : Int), va), ((2 : Int), (2800 : Int))] (by simp) (by simp) #[.int .i64 1, .int .i64 va, .int .i64 2, .int .i64 2800] rfl
          have Hu2 := own_base Hu (show w5.heap.size ≤ wr.heap.size from HO.out.gro.size)
          have hz1' : (wr.alloc (.cells #[.int .i64 1, .int .i64 va, .int .i64 2, .int .i64 2800] 81)).heap.size = wr.heap.size + 1 := Array.size_push _
          have HC9 := eight_at (r := (⟨1, nmA, mi, 0, 0, 0, 0, .slice (some ⟨wr.heap.size, 0, none⟩) 2 2, [((1 : Int), va), ((2 : Int), (2800 : Int))]⟩ : Rp)) (Row.new (wr.alloc (.cells #[.int .i64 1, .int .i64 va, .int .i64 2, .int .i64 2800] 81)) (repC 1 nmA mi 0 0 0 0 (.slice (some ⟨wr.heap.size, 0, none⟩) 2 2)) 38)
          rw [hz1'] at HC9
          have HC9 := Lib.hid HC9
          have b3 := (Below.refl (wr.alloc (.cells #[.int .i64 1, .int .i64 va, .int .i64 2, .int .i64 2800] 81)).heap.size (wr.alloc (.cells #[.int .i64 1, .int .i64 va, .int .i64 2, .int .i64 2800] 81))).alloc (Nat.le_refl _) (.cells (repC 1 nmA mi 0 0 0 0 (.slice (some ⟨wr.heap.size, 0, none⟩) 2 2)) 38)
          have H3 := Lib.hid ((HO.out.under b2).under b3)
          have Hu3 := Lib.hid (El.own_under Hu2 b3)
          have HW4 := Lib.hid ((HW.out.under b2).under b3)
          obtain ⟨p, tm, hcl, hnx⟩ := HL.out
          have HN := Lib.hid (hcl.snoc hnx ⟨hva, by omega⟩ (.slice (some ⟨wr.heap.size, 0, none⟩) 2 2))
          clear hcl hnx b2 b3 Hu Hu2 HO HW HL hz1'
          go_wp2_with (at_builtin; go_loud (refine wpList_append_own' rfl (.tmp 45) (.tmp 52) 25 rfl w5.heap.size 38 i0 (repV 0 ⟨#[]⟩ 0 0 0 0 0 (.slice none 0 0)) 8 88 Tryd.underlying25 hi0 hz0 hz1 hz2 rfl (by decide) u9 R.length (rpc R) rfl H3.out.own ⟨wr.heap.size + 1, 0, none⟩ 1 1 (rpCells (⟨1, nmA, mi, 0, 0, 0, 0, .slice (some ⟨wr.heap.size, 0, none⟩) 2 2, [((1 : Int), va), ((2 : Int), (2800 : Int))]⟩ : Rp)) rfl rfl HC9.out (fun z hz => by simp only [rpCells, List.mem_cons, List.not_mem_nil, or_false] at hz; rcases hz with rfl | rfl | rfl | rfl | rfl | rfl | rfl | rfl <;> rfl) (by unfold maxLen; omega) (by omega) H3.out.gro.size ?_); intro v9 w9 ho9 hg9; have HW9 := Lib.hid (And.intro ho9 hg9); clear ho9 hg9)
          have H9 := Lib.hid (H3.out.app (q := (⟨1, nmA, mi, 0, 0, 0, 0, .slice (some ⟨wr.heap.size, 0, none⟩) 2 2, [((1 : Int), va), ((2 : Int), (2800 : Int))]⟩ : Rp)) Hu3.out HW9.out.1 HW9.out.2)
          have HC10 := Lib.hid (HW4.out.kept HW9.out.2 (fun i e => by have := row_base H3.out.own e; omega))
          clear HW9 H3 Hu3 HC9 HW4
          refine (range_any W b w9 1 200 HC10.out.src (by decide) (by decide) (by decide) (by decide)).mono ?_
          rintro e w6 ⟨d, ⟨d1, d2⟩, rfl, s6, g6⟩
          have HC11 := Lib.hid (HC10.out.step s6 g6)
          have H10 := Lib.hid (H9.out.step g6)
          clear s6 g6 HC10 H9
          have hneg : IntKind.i64.wrap (-n) = -n := IntWalk.i64_in _ (by omega)
          have hmd : IntKind.i64.wrap (mi + d) = mi + d := IntWalk.i64_in _ (by omega)
          go_wp2_with fail
          refine (range_any W b w6 (-n) n HC11.out.src (by omega) (by omega) (by omega) (by omega)).mono ?_
          rintro e w7 ⟨xd, ⟨y1, y2⟩, rfl, s7, g7⟩
          have HC12 := Lib.hid (HC11.out.step s7 g7)
          have H11 := Lib.hid (H10.out.step g7)
          clear s7 g7 HC11 H10
          have hd59 : IntKind.i64.wrap (d + 59) = d + 59 := IntWalk.i64_in _ (by omega)
          obtain ⟨q, hq⟩ : ∃ q, (d + 59) / 60 = q := ⟨_, rfl⟩
          have hq4 : q = 1 ∨ q = 2 ∨ q = 3 ∨ q = 4 := by omega
          obtain ⟨y, hy⟩ : ∃ y, xd * q = y := ⟨_, rfl⟩
          have hyb : (-400 ≤ y ∧ y ≤ 400) ∧ y ≤ n * q ∧ -y ≤ n * q := by
            rw [← hy]
            rcases hq4 with rfl | rfl | rfl | rfl <;> omega
          have hxq : IntKind.i64.wrap (xd * q) = y := by rw [hy]; exact IntWalk.i64_in _ (by omega)
          have hvy : IntKind.i64.wrap (va + y) = va + y := IntWalk.i64_in _ (by omega)
          go_wp2_with fail
          obtain ⟨va', hva'⟩ : ∃ v, max 9000 (min 10900 (va + y)) = v := ⟨_, rfl⟩
          have hvb : 9000 ≤ va' ∧ va' ≤ 10900 := by omega
          have HN2 : Hid (∃ p tm, Clm n p tm (R ++ [⟨1, nmA, mi, 0, 0, 0, 0, .slice (some ⟨wr.heap.size, 0, none⟩) 2 2, [((1 : Int), va), ((2 : Int), (2800 : Int))]⟩]) ∧ Nxt n p tm (R ++ [(⟨1, nmA, mi, 0, 0, 0, 0, .slice (some ⟨wr.heap.size, 0, none⟩) 2 2, [((1 : Int), va), ((2 : Int), (2800 : Int))]⟩ : Rp)]).length va' (mi + d)) := Lib.hid (by
            obtain ⟨p', tm', hcl, e1, e2⟩ := HN.out
            refine ⟨p', tm', hcl, fun j hj => ?_⟩
            rw [List.length_append, List.length_singleton] at hj
            obtain rfl : j = R.length := by omega
            rw [e1, e2, show mi + d - mi + 59 = d + 59 by omega, hq]
            generalize n * q = nq at *
            omega)
          have hRl : (R ++ [(⟨1, nmA, mi, 0, 0, 0, 0, .slice (some ⟨wr.heap.size, 0, none⟩) 2 2, [((1 : Int), va), ((2 : Int), (2800 : Int))]⟩ : Rp)]).length = R.length + 1 := by rw [List.length_append]; rfl
          clear HN
          rw [hva']
          exact ⟨⟨_, k - 1, va', mi + d, rfl, rfl, by go_num, by rw [hRl]; omega, hvb, by rw [hRl]; omega, HC12, H11, HN2⟩, by simp [intOf]; omega⟩
        · obtain rfl : k = 0 := by omega
          have k1 : ¬ (0 : Int) < ((0 : Nat) : Int) := by omega
          obtain ⟨p, tm, hcl, -⟩ := HL.out
          have HCl := Lib.hid hcl
          have HI := Lib.hid (show Lst w5 R u9 wr from ⟨HO.out.own, HO.out.rds⟩)
          have HT := Lib.hid (hT.under HW.out.src.below)
          have hR12 : R.length ≤ 12 := by omega
          have HNm := Lib.hid (show ∀ r ∈ R, r.nm.size ≤ 40 from fun r hr => by
            obtain ⟨j, hj, rfl⟩ := List.getElem_of_mem hr
            rw [(hcl.at_ j hj).1]; decide)
          have HE1 := Lib.hid (hcl.er HW.out.ct)
          have HF1 := Lib.hid (hcl.none_step (S := S) (P := P0) HSn.out.1 (by rw [HSn.out.2]; omega) rfl)
          have HE2 := Lib.hid (hcl.er (cs1_ok 0 0 0 0 0))
          clear hcl HL HO
          have hcs : (Tryd.prog.info? 67).map (·.size) = some cs.size := by rw [HW.out.ct.ct.size]; kernel_rfl
          have hbox : wr.heap[gc]? = some (.cells cs 67 (0, 0)) := HW.out.box
          go_wp2_with (refine wpList_load_row rfl 67 (.tmp 7) rfl gc rfl 67 cs (0, 0) _ hbox Tryd.underlying67 rfl hcs ?_)
          refine (check_any _ R cs S P0 wr HI.out.ins HW.out.ct.ct HT.out (by omega) HNm.out).mono ?_
          rintro e Y5 ⟨va5, rfl, hb5, -, hz5⟩
          rw [HE1.out] at *
          have HW5 := Lib.hid (HW.out.under hb5)
          have HI5 := Lib.hid (HI.out.under hb5)
          have HT5 := Lib.hid (HT.out.under hb5)
          have HFa := Lib.hid (In3.own flE_len (hz5 rfl))
          rw [HF1.out] at HFa
          clear hb5 hz5 HW HI HT hbox HE1
          obtain ⟨Aa, ca, hva5, -⟩ := HFa.out.form'
          subst hva5
          go_wp2_with (refine wpList_buildTo rfl 67 #[] rfl (some 80) rfl cs0 (by kernel_rfl) ?_; go_frame)
          refine (check_any _ R cs0 P0 P0 Y5 HI5.out.ins (show CtB cs0 P0 P0 from cs1_ok 0 0 0 0 0).ct HT5.out (by omega) HNm.out).mono ?_
          rintro e Y6 ⟨va6, rfl, hb6, -, hz6⟩
          rw [show erT R P0 P0 = 0 from HE2.out] at *
          have HF2 := Lib.hid HCl.out.none_zero
          have HW6 := Lib.hid (HW5.out.under hb6)
          have HI6 := Lib.hid (HI5.out.under hb6)
          have HT6 := Lib.hid (HT5.out.under hb6)
          have HFb := Lib.hid (In3.own flE_len (hz6 rfl))
          rw [HF2.out] at HFb
          clear hb6 hz6 HW5 HI5 HT5 HE2 HF1 HF2 HFa
          obtain ⟨Ab, cb, hva6, -⟩ := HFb.out.form'
          subst hva6
          clear HFb
          go_wp2_with fail
          go_loopw [18] (fun t wy => ∃ c : Nat, 1 ≤ c ∧ c ≤ 12 ∧ t = .int .i64 (c : Int) ∧ Hid (∃ cs P, Cw W b gc cs S P wy) ∧ Hid (Lst w5 R u9 wy)) (fun t _ => 12 - (intOf t).toNat)
          case atStart => exact ⟨1, by omega, by omega, rfl, Lib.hid ⟨cs, P0, HW6.out⟩, HI6⟩
          case round =>
            clear HW6 HI6
            obtain ⟨c, hc1, hc2, rfl, HCe, HLs⟩ := hrel
            by_cases hlt : c ≤ 11
            · have k0 : (c : Int) ≤ 11 := by omega
              have k1 : (0 : Int) ≤ (c : Int) := by omega
              have k2 : (c : Int) < 12 := by omega
              obtain ⟨cs, P, h⟩ := HCe.out
              have H1 := Lib.hid h
              clear h HCe
              go_wp2_with fail
              refine (range_any W b wr 1 50 H1.out.src (by decide) (by decide) (by decide) (by decide)).mono ?_
              rintro e w8 ⟨x, ⟨x1, x2⟩, rfl, s8, g8⟩
              have h := H1.out.step s8 g8
              have HL8 := Lib.hid (HLs.out.kept g8 (fun i e => by injection e with e; have := H1.out.hb; omega))
              have H2 : Hid (∃ cs P, Cw W b gc cs S P (w8.setCell ⟨gc, 13 + c, none⟩ (.int .i64 x))) := Lib.hid ⟨_, _, h.setP (c := c) (by omega) (x := x) (by omega) (by omega)⟩
              have HL9 := Lib.hid (HL8.out.kept (set_grown w8 gc (13 + c) (.int .i64 x)) (fun i e => by injection e with e; omega))
              have q0 := (h.box.cell (13 + c)).trans (h.ct.ct.p c (by omega))
              have f0 := h.box.thaw (13 + c)
              clear h s8 g8 H1 HLs HL8
              go_wp2_with fail
              go_roundw
              case rel => exact ⟨c + 1, by omega, by omega, by go_num, H2, HL9⟩
              case measure => simp [intOf]; omega
            · obtain rfl : c = 12 := by omega
              obtain ⟨cs, P, h⟩ := HCe.out
              have HCt := Lib.hid h.ct
              have HTw := Lib.hid (hT.under h.src.below)
              have HBw := Lib.hid h.src.below
              have HE3 := Lib.hid (HCl.out.er h.ct)
              have HFg := Lib.hid (show ∀ q ∈ flg R S P, q.2 = 1 from fun q hq => (HCl.out.flags (by rw [HSn.out.2]; omega) hq).1)
              have hcs : (Tryd.prog.info? 67).map (·.size) = some cs.size := by rw [h.ct.ct.size]; kernel_rfl
              have hbox : wr.heap[gc]? = some (.cells cs 67 (0, 0)) := h.box
              clear h HCe
              go_wp2_with (refine wpList_load_row rfl 67 (.tmp 7) rfl gc rfl 67 cs (0, 0) _ hbox Tryd.underlying67 rfl hcs ?_)
              refine (check_any _ R cs S P wr HLs.out.ins HCt.out.ct HTw.out (by omega) HNm.out).mono ?_
              rintro e Y7 ⟨va7, rfl, hb7, -, hz7⟩
              rw [HE3.out] at *
              have HT7 := Lib.hid (HTw.out.under hb7)
              have HB7 := Lib.hid (HBw.out.trans (hb7.mono HBw.out.size))
              have HFc := Lib.hid (In3.own flE_len (hz7 rfl))
              clear hb7 hz7 HTw HBw HE3 hbox HLs hcs
              generalize flg R S P = fl at *
              obtain ⟨Af, cf, hvf, hfl⟩ := HFc.out.form'
              subst hvf
              go_wp2_with fail
              go_loopw [117] (fun ti wy => ∃ k : Nat, k ≤ fl.length ∧ ti = .int .i64 (k : Int) ∧ Hid (Below Y7.heap.size Y7 wy)) (fun ti _ => fl.length - (intOf ti).toNat)
              case atStart => exact ⟨0, Nat.zero_le _, rfl, Lib.hid (Below.refl _ _)⟩
              case round =>
                obtain ⟨k, hk, rfl, HB⟩ := hrel
                by_cases hlt : k < fl.length
                · obtain ⟨g, off, hAq, hgl, c0, c1, c2⟩ := (HFc.out.under HB.out).cellsF hlt
                  subst hAq
                  have k1 : (k : Int) < (fl.length : Int) := by omega
                  have k2 : (0 : Int) ≤ (k : Int) := by omega
                  rw [HFg.out _ (List.getElem_mem hlt)] at c1
                  obtain ⟨q0, hq0⟩ : ∃ z : Int, ((fl[k].1 : Nat) : Int) = z := ⟨_, rfl⟩
                  rw [hq0] at c0
                  have HB2 := Lib.hid (HB.out.alloc HB.out.size (.cells #[.int .i64 q0, .int .i64 1, .int .i64 4] 77))
                  clear hq0 hgl HB
                  go_wp2_with fail
                  exact ⟨⟨k + 1, by omega, by go_num, HB2⟩, by simp [intOf]; omega⟩
                · obtain rfl : k = fl.length := by omega
                  have HT9 := Lib.hid (HT7.out.under HB.out)
                  have HB9 := Lib.hid (HB7.out.trans (HB.out.mono HB7.out.size))
                  go_wp2_with fail
                  refine (awake_any _ HT9.out).mono ?_
                  rintro e X10 ⟨rfl, b10⟩
                  have HF := Lib.hid (HB9.out.trans (b10.mono HB9.out.size))
                  clear b10 HB9 HT9
                  go_wp2_with fail
                  go_ret
                  exact ⟨rfl, HGB.out ▸ HF.out⟩
end Go.Proofs.YtlakgkoohdfiaaaDoor.Tm
