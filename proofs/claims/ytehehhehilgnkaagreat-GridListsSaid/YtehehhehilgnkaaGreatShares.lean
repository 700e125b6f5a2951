/- The contract of shares. -/
import Derived.Test.YtehehhehilgnkaaGreatTria
import Derived.Test.YtehehhehilgnkaaGreatSort
import Derived.Test.YtehehhehilgnkaaGreatLoc
import Derived.Deep.Onto
namespace Go.Proofs.YtehehhehilgnkaaGreat
open Go.RowKit Go.Maps

/-- What shares and Locate leave: a list of shares in a block of their own. -/
def ShareR (W : World) (L : List (Nat × Int)) (v : Value) (w : World) : Prop := ∃ g cap, v = .slice (some ⟨g, 0, none⟩) L.length cap ∧ L.length ≤ cap ∧ cap ≤ 9223372036854775807 ∧ Below W.heap.size W w ∧ W.heap.size ≤ g ∧ g < w.heap.size ∧ Shs w g L
theorem La.lower {W W0 w : World} {n gl : Nat} (h : La W n gl w) (hb : Below W0.heap.size W0 w) (hs : W0.heap.size ≤ W.heap.size) : La W0 n gl w := by
  obtain ⟨g, cap, h1, h2⟩ := h.nds
  exact ⟨hb, Nat.le_trans hs h.gl0, h.lt, ⟨g, cap, h1, h2.mono hs⟩, h.idx⟩
theorem infoShare : (Tryz.prog.info? 75).map (fun i => (i.zero, i.size, i.bytes)) = some (some (.agg #[.int .i64 0, .int .i64 0]), 2, 16) := by kernel_rfl
theorem shc_snoc (L : List (Nat × Int)) (x : Nat × Int) : shc (L ++ [x]) = shc L ++ [.int .i64 (x.1 : Int), .int .i64 x.2] := by simp [shc]
/-- What is known while the corners are gone through. -/
structure Sg (W : World) (n gl gt : Nat) (cs : Array Value) (L : List (Nat × Int)) (v : Value) (w : World) : Prop where
  la : La W n gl w
  row : Row w gt 83 cs
  own : w.ownsRow W.heap.size 75 2 v L.length (shc L)
  ne : some gl ≠ v.ownBlock
theorem Sg.under {W w w' : World} {n gl gt : Nat} {cs : Array Value} {L : List (Nat × Int)} {v : Value} (h : Sg W n gl gt cs L v w) (hb : Below w.heap.size w w') : Sg W n gl gt cs L v w' := ⟨h.la.under hb, h.row.under hb, own_under h.own hb, h.ne⟩
theorem Sg.alloc {W w : World} {n gl gt : Nat} {cs : Array Value} {L : List (Nat × Int)} {v : Value} (h : Sg W n gl gt cs L v w) (o : Obj) : Sg W n gl gt cs L v (w.alloc o) := h.under ((Below.refl _ _).alloc (Nat.le_refl _) o)
/-- The lattice is kept by whatever writes one block that is not the lattice's and not the nodes'. -/
theorem La.kept {W w w' : World} {n gl : Nat} {v : Value} {m : Nat} {xs : List Value} (h : La W n gl w) (ho : w.ownsRow W.heap.size 75 2 v m xs) (hl : some gl ≠ v.ownBlock) (hg : w.grownBy w' v.ownBlock) : La W n gl w' := by
  obtain ⟨g, cap, h1, h2⟩ := h.nds
  refine ⟨below_own h.below h.below.size ho hg, h.gl0, Nat.lt_of_lt_of_le h.lt hg.size, ⟨g, cap, (hg.cell_far ⟨gl, 0, none⟩ h.lt hl).trans h1, h2.kept hg (.inr ?_)⟩, fun f a b hf hab => (hg.cell_far ⟨gl, 1 + f * 81 + a * 9 + b, none⟩ h.lt hl).trans (h.idx f a b hf hab)⟩
  intro e
  rcases ho.2 with ⟨rfl, _⟩ | ⟨g', cap', cur, rfl, _, hh, _⟩
  · simp [Value.ownBlock] at e
  · have : g = g' := by simpa [Value.ownBlock] using e
    subst this
    rcases h2.2 with ⟨e, _⟩ | ⟨g2, cap2, cur2, e, _, hh2, _⟩
    · cases e
    · injection e with e
      injection e with e
      injection e with e
      subst e
      rw [hh2] at hh
      injection hh with hh
      injection hh with _ ht
      exact absurd ht (by decide)
theorem Sg.more {W w w' : World} {n gl gt g' cap' : Nat} {cs : Array Value} {L : List (Nat × Int)} {v : Value} {x : Nat × Int} (h : Sg W n gl gt cs L v w)
    (hown : w'.ownsRow W.heap.size 75 2 (.slice (some ⟨g', 0, none⟩) (L.length + 1) cap') (L.length + 1) (shc L ++ [.int .i64 (x.1 : Int), .int .i64 x.2])) (hg : w.grownBy w' v.ownBlock) (hat : v.ownBlock = some g' ∨ g' = w.heap.size) : Sg W n gl gt cs (L ++ [x]) (.slice (some ⟨g', 0, none⟩) (L.length + 1) cap') w' :=
  ⟨h.la.kept h.own h.ne hg, h.row.grown hg (own_ne h.own h.row (by decide)), by rw [shc_snoc]; simpa using hown, by
    rcases hat with e | e
    · rw [show (Value.slice (some ⟨g', 0, none⟩) (L.length + 1) cap').ownBlock = some g' from rfl, ← e]; exact h.ne
    · have := h.la.lt
      rw [show (Value.slice (some ⟨g', 0, none⟩) (L.length + 1) cap').ownBlock = some g' from rfl]
      intro e'; injection e' with e'; omega⟩
theorem Sg.drew {W w : World} {n gl gt : Nat} {cs : Array Value} {L : List (Nat × Int)} {v : Value} (h : Sg W n gl gt cs L v w) : Sg W n gl gt cs L v w.drew := ⟨h.la.drew, h.row, h.own, h.ne⟩
/-- What a sorted list of the shares is. -/
theorem shl_lt {n f : Nat} {T : List ((Nat × Nat) × Int)} (hn : Lat.frq n) (hf : f < 20) (hT : ∀ t ∈ T, 0 < t.2 → t.1.1 + t.1.2 ≤ n) : ∀ x ∈ Lat.shl n f T, x.1 < 1000 := by
  intro x hx
  obtain ⟨t, ht, hp, rfl⟩ := Lat.shl_mem.1 hx
  exact Lat.idx_lt hn hf (hT t ht hp)
/-- What shares leaves. -/
def ShareS (W : World) (L : List (Nat × Int)) (e : Ending) (w : World) : Prop := ∃ v L', e = .returned v ∧ L'.Perm L ∧ L'.Pairwise (fun a b : Nat × Int => a.1 ≤ b.1) ∧ ShareR W L' v w
set_option maxRecDepth 100000 in
set_option maxHeartbeats 4000000 in
theorem shares_any (n f : Nat) (a0 b0 a1 b1 a2 b2 : Nat) (c0 c1 c2 x y z : Int) (w : World) (hn : Lat.frq n) (hf : f < 20) (h0 : 0 < x → a0 + b0 ≤ n) (h1 : 0 < y → a1 + b1 ≤ n) (h2 : 0 < z → a2 + b2 ≤ n) (hp : 0 < x ∨ 0 < y ∨ 0 < z) :
    Calls Tryz.prog 48 #[.int .i64 n, .agg (tr12 f a0 b0 c0 a1 b1 c1 a2 b2 c2), .agg #[.int .i64 x, .int .i64 y, .int .i64 z]] w (ShareS w (Lat.shl n f [((a0, b0), x), ((a1, b1), y), ((a2, b2), z)])) := by
  obtain ⟨i0, hi, hz0, hz1, hz2⟩ := info_parts infoShare
  have HP := Lib.hid hp; clear hp
  have j0 : ∀ w, (Instr.index 57 (.agg #[.int .i64 x, .int .i64 y, .int .i64 z]) (.int .i64 0)).run Tryz.prog w = .ok (.int .i64 x) w := fun _ => by kernel_rfl
  have j1 : ∀ w, (Instr.index 57 (.agg #[.int .i64 x, .int .i64 y, .int .i64 z]) (.int .i64 1)).run Tryz.prog w = .ok (.int .i64 y) w := fun _ => by kernel_rfl
  have j2 : ∀ w, (Instr.index 57 (.agg #[.int .i64 x, .int .i64 y, .int .i64 z]) (.int .i64 2)).run Tryz.prog w = .ok (.int .i64 z) w := fun _ => by kernel_rfl
  go_enter Tryz.func48, Tryz.ntmps48
  go_upto_region 3 with (go_at_call 17; refine (lattice_any _ _ hn).mono ?_; rintro e w2 ⟨gl, rfl, hla⟩)
  have hb2 : Below w.heap.size w w2 := ((((Below.refl _ _).alloc (Nat.le_refl _) _).alloc (by simp) _).trans (hla.below.mono (by simp; omega)))
  have S0 : Sg w n gl w.heap.size (tr12 f a0 b0 c0 a1 b1 c1 a2 b2 c2) [] (.slice none 0 0) w2 := ⟨hla.lower hb2 (by simp; omega), ((Row.new w _ _).alloc _).under hla.below, World.ownsRow_nil _ _ _ _, by simp [Value.ownBlock]⟩
  have r5 : Row w2 (w.heap.size + 1) 57 #[.int .i64 x, .int .i64 y, .int .i64 z] := (Row.newAt (by simp)).under hla.below
  obtain ⟨q0, q1, q2⟩ := row3 r5
  have H0 := Lib.hid S0; clear S0 r5 hla
  go_wp2_with fail
  clear q0 q1 q2
  go_loopw [8, 14] (fun v t wr => (t = .int .i64 0 ∧ Sg w n gl w.heap.size (tr12 f a0 b0 c0 a1 b1 c1 a2 b2 c2) (Lat.shl n f []) v wr) ∨ (t = .int .i64 1 ∧ Sg w n gl w.heap.size (tr12 f a0 b0 c0 a1 b1 c1 a2 b2 c2) (Lat.shl n f [((a0, b0), x)]) v wr) ∨ (t = .int .i64 2 ∧ Sg w n gl w.heap.size (tr12 f a0 b0 c0 a1 b1 c1 a2 b2 c2) (Lat.shl n f [((a0, b0), x), ((a1, b1), y)]) v wr) ∨ (t = .int .i64 3 ∧ Sg w n gl w.heap.size (tr12 f a0 b0 c0 a1 b1 c1 a2 b2 c2) (Lat.shl n f [((a0, b0), x), ((a1, b1), y), ((a2, b2), z)]) v wr)) (fun _ t _ => 3 - (intOf t).toNat)
  case atStart => exact .inl ⟨rfl, H0.out⟩
  case round =>
    clear H0 hb2
    rcases hrel with ⟨rfl, S⟩ | ⟨rfl, S⟩ | ⟨rfl, S⟩ | ⟨rfl, S⟩
    · have hl3 := Lib.hid (show (Lat.shl n f []).length ≤ 0 from List.length_filterMap_le _ _)
      generalize hL : Lat.shl n f [] = L at *
      have HL := Lib.hid hL; clear hL
      obtain ⟨⟨d0, d1, d2, d3, d4, d5⟩, d6, d7, d8, d9, d10, d11⟩ := row12 S.row
      have HS := Lib.hid S; clear S
      by_cases hx : 0 < x
      · go_wp2_with fail
        refine (find_any w n gl f a0 b0 c0 _ HS.out.la hn hf (h0 hx)).mono ?_
        rintro e w3 ⟨rfl, hb3⟩
        have S3 := Lib.hid ((HS.out.under hb3).alloc (.cells #[.int .i64 (Lat.idx n f a0 b0 : Nat), .int .i64 x] 75))
        clear d0 d1 d2 d3 d4 d5 d6 d7 d8 d9 d10 d11 hb3 HS
        go_wp2_with (at_builtin; refine wpList_append_lies _ rfl (.tmp 20) (.tmp 28) 70 rfl w.heap.size 75 i0 _ 2 16 Tryz.underlying70 hi hz0 hz1 hz2 rfl (by decide) «u8» L.length (shc L) rfl S3.out.own ⟨w3.heap.size, 0, none⟩ 1 1 [.int .i64 (Lat.idx n f a0 b0 : Nat), .int .i64 x] rfl rfl (World.news_of_block (cs := #[.int .i64 (Lat.idx n f a0 b0 : Nat), .int .i64 x]) (t := 75) (fr := (0, 0)) (heap_alloc_new w3 _)) (by simp [Value.oneCell']) (by omega) (by have := hl3.out; unfold maxLen; omega) (by have := hl3.out; omega) S3.out.la.below.size (w3.heap.size + 1) (by simp) ?_; intro g' cap' w4 hown4 hgrow4 hat4 hlt4; have S4 := Lib.hid (S3.out.more (x := (Lat.idx n f a0 b0, x)) hown4 hgrow4 (hat4.imp id (fun h => by rw [h]; simp))); clear hown4 hgrow4 hat4 hlt4)
        go_roundw
        case rel => exact .inr (.inl ⟨rfl, by rw [show Lat.shl n f [((a0, b0), x)] = Lat.shl n f [] ++ [(Lat.idx n f a0 b0, x)] from Lat.shl_yes (T := []) (t := ((a0, b0), x)) hx, HL.out]; exact S4.out⟩)
        case measure => simp [intOf]
      · go_wp2_with fail
        go_roundw
        case rel => exact .inr (.inl ⟨rfl, by rw [show Lat.shl n f [((a0, b0), x)] = Lat.shl n f [] from Lat.shl_no (T := []) (t := ((a0, b0), x)) hx, HL.out]; exact HS.out⟩)
        case measure => simp [intOf]
    · have hl3 := Lib.hid (show (Lat.shl n f [((a0, b0), x)]).length ≤ 1 from List.length_filterMap_le _ _)
      generalize hL : Lat.shl n f [((a0, b0), x)] = L at *
      have HL := Lib.hid hL; clear hL
      obtain ⟨⟨d0, d1, d2, d3, d4, d5⟩, d6, d7, d8, d9, d10, d11⟩ := row12 S.row
      have HS := Lib.hid S; clear S
      by_cases hx : 0 < y
      · go_wp2_with fail
        refine (find_any w n gl f a1 b1 c1 _ HS.out.la hn hf (h1 hx)).mono ?_
        rintro e w3 ⟨rfl, hb3⟩
        have S3 := Lib.hid ((HS.out.under hb3).alloc (.cells #[.int .i64 (Lat.idx n f a1 b1 : Nat), .int .i64 y] 75))
        clear d0 d1 d2 d3 d4 d5 d6 d7 d8 d9 d10 d11 hb3 HS
        go_wp2_with (at_builtin; refine wpList_append_lies _ rfl (.tmp 20) (.tmp 28) 70 rfl w.heap.size 75 i0 _ 2 16 Tryz.underlying70 hi hz0 hz1 hz2 rfl (by decide) «u8» L.length (shc L) rfl S3.out.own ⟨w3.heap.size, 0, none⟩ 1 1 [.int .i64 (Lat.idx n f a1 b1 : Nat), .int .i64 y] rfl rfl (World.news_of_block (cs := #[.int .i64 (Lat.idx n f a1 b1 : Nat), .int .i64 y]) (t := 75) (fr := (0, 0)) (heap_alloc_new w3 _)) (by simp [Value.oneCell']) (by omega) (by have := hl3.out; unfold maxLen; omega) (by have := hl3.out; omega) S3.out.la.below.size (w3.heap.size + 1) (by simp) ?_; intro g' cap' w4 hown4 hgrow4 hat4 hlt4; have S4 := Lib.hid (S3.out.more (x := (Lat.idx n f a1 b1, y)) hown4 hgrow4 (hat4.imp id (fun h => by rw [h]; simp))); clear hown4 hgrow4 hat4 hlt4)
        go_roundw
        case rel => exact .inr (.inr (.inl ⟨rfl, by rw [show Lat.shl n f [((a0, b0), x), ((a1, b1), y)] = Lat.shl n f [((a0, b0), x)] ++ [(Lat.idx n f a1 b1, y)] from Lat.shl_yes (T := [((a0, b0), x)]) (t := ((a1, b1), y)) hx, HL.out]; exact S4.out⟩))
        case measure => simp [intOf]
      · go_wp2_with fail
        go_roundw
        case rel => exact .inr (.inr (.inl ⟨rfl, by rw [show Lat.shl n f [((a0, b0), x), ((a1, b1), y)] = Lat.shl n f [((a0, b0), x)] from Lat.shl_no (T := [((a0, b0), x)]) (t := ((a1, b1), y)) hx, HL.out]; exact HS.out⟩))
        case measure => simp [intOf]
    · have hl3 := Lib.hid (show (Lat.shl n f [((a0, b0), x), ((a1, b1), y)]).length ≤ 2 from List.length_filterMap_le _ _)
      generalize hL : Lat.shl n f [((a0, b0), x), ((a1, b1), y)] = L at *
      have HL := Lib.hid hL; clear hL
      obtain ⟨⟨d0, d1, d2, d3, d4, d5⟩, d6, d7, d8, d9, d10, d11⟩ := row12 S.row
      have HS := Lib.hid S; clear S
      by_cases hx : 0 < z
      · go_wp2_with fail
        refine (find_any w n gl f a2 b2 c2 _ HS.out.la hn hf (h2 hx)).mono ?_
        rintro e w3 ⟨rfl, hb3⟩
        have S3 := Lib.hid ((HS.out.under hb3).alloc (.cells #[.int .i64 (Lat.idx n f a2 b2 : Nat), .int .i64 z] 75))
        clear d0 d1 d2 d3 d4 d5 d6 d7 d8 d9 d10 d11 hb3 HS
        go_wp2_with (at_builtin; refine wpList_append_lies _ rfl (.tmp 20) (.tmp 28) 70 rfl w.heap.size 75 i0 _ 2 16 Tryz.underlying70 hi hz0 hz1 hz2 rfl (by decide) «u8» L.length (shc L) rfl S3.out.own ⟨w3.heap.size, 0, none⟩ 1 1 [.int .i64 (Lat.idx n f a2 b2 : Nat), .int .i64 z] rfl rfl (World.news_of_block (cs := #[.int .i64 (Lat.idx n f a2 b2 : Nat), .int .i64 z]) (t := 75) (fr := (0, 0)) (heap_alloc_new w3 _)) (by simp [Value.oneCell']) (by omega) (by have := hl3.out; unfold maxLen; omega) (by have := hl3.out; omega) S3.out.la.below.size (w3.heap.size + 1) (by simp) ?_; intro g' cap' w4 hown4 hgrow4 hat4 hlt4; have S4 := Lib.hid (S3.out.more (x := (Lat.idx n f a2 b2, z)) hown4 hgrow4 (hat4.imp id (fun h => by rw [h]; simp))); clear hown4 hgrow4 hat4 hlt4)
        go_roundw
        case rel => exact .inr (.inr (.inr ⟨rfl, by rw [show Lat.shl n f [((a0, b0), x), ((a1, b1), y), ((a2, b2), z)] = Lat.shl n f [((a0, b0), x), ((a1, b1), y)] ++ [(Lat.idx n f a2 b2, z)] from Lat.shl_yes (T := [((a0, b0), x), ((a1, b1), y)]) (t := ((a2, b2), z)) hx, HL.out]; exact S4.out⟩))
        case measure => simp [intOf]
      · go_wp2_with fail
        go_roundw
        case rel => exact .inr (.inr (.inr ⟨rfl, by rw [show Lat.shl n f [((a0, b0), x), ((a1, b1), y), ((a2, b2), z)] = Lat.shl n f [((a0, b0), x), ((a1, b1), y)] from Lat.shl_no (T := [((a0, b0), x), ((a1, b1), y)]) (t := ((a2, b2), z)) hx, HL.out]; exact HS.out⟩))
        case measure => simp [intOf]
    · have hT : ∀ t ∈ [((a0, b0), x), ((a1, b1), y), ((a2, b2), z)], 0 < t.2 → t.1.1 + t.1.2 ≤ n := by
        intro t ht
        simp only [List.mem_cons, List.not_mem_nil, or_false] at ht
        rcases ht with rfl | rfl | rfl
        · exact h0
        · exact h1
        · exact h2
      have hlt := Lib.hid (shl_lt hn hf hT)
      have hl3 := Lib.hid (show (Lat.shl n f [((a0, b0), x), ((a1, b1), y), ((a2, b2), z)]).length ≤ 3 from List.length_filterMap_le _ _)
      have hpos : Hid (0 < (Lat.shl n f [((a0, b0), x), ((a1, b1), y), ((a2, b2), z)]).length) := Lib.hid (by
        rcases HP.out with q | q | q
        · exact List.length_pos_of_mem (Lat.shl_mem.2 ⟨((a0, b0), x), by simp, q, rfl⟩)
        · exact List.length_pos_of_mem (Lat.shl_mem.2 ⟨((a1, b1), y), by simp, q, rfl⟩)
        · exact List.length_pos_of_mem (Lat.shl_mem.2 ⟨((a2, b2), z), by simp, q, rfl⟩))
      clear hT
      generalize Lat.shl n f [((a0, b0), x), ((a1, b1), y), ((a2, b2), z)] = L at *
      rcases S.own.2 with ⟨_, h⟩ | ⟨g', cap', cur, hv, hge, hh, hle, hmax, hsz, htk⟩
      · exact absurd h (Nat.ne_of_gt hpos.out)
      · subst hv
        have hown := Lib.hid S.own
        have hbel := Lib.hid S.la.below
        have hg5 : Hid (g' < wr.heap.size) := Lib.hid (Array.getElem?_eq_some_iff.1 hh).1
        have HMX := Lib.hid hmax
        have HLE := Lib.hid hle
        have HGE := Lib.hid hge
        clear S hh hsz htk hmax hle hge j0 j1 j2
        go_wp2_with fail
        refine (sort_any g' cap' L _ hlt.out (by have := hl3.out; omega) hg5.out (shs_of_own hown.out rfl) (fun j => hown.out.frozenAt j)).mono ?_
        rintro e w5 ⟨rfl, hgr, L', hperm, hsort, hshs⟩
        have HG := Lib.hid hgr; clear hgr
        have HR : Hid (L'.Perm L ∧ L'.Pairwise (fun a b : Nat × Int => a.1 ≤ b.1) ∧ Shs w5 g' L') := Lib.hid ⟨hperm, hsort, hshs⟩
        clear hperm hsort hshs
        go_wp2_with fail
        go_ret
        exact ⟨.slice (some ⟨g', 0, none⟩) L.length cap', L', rfl, HR.out.1, HR.out.2.1, g', cap', by rw [HR.out.1.length_eq], by rw [HR.out.1.length_eq]; exact HLE.out, by have := HMX.out; unfold maxLen at this; omega, below_by hbel.out hbel.out.size HGE.out HG.out, HGE.out, Nat.lt_of_lt_of_le hg5.out HG.out.size, HR.out.2.2⟩
end Go.Proofs.YtehehhehilgnkaaGreat

