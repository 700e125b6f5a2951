/- Texts of this proof. -/
import Derived.Test.YtejoabaanclcbaaGreatQae
import Derived.Test.YtejoabaanclcbaaGreatQag
import Derived.Deep.Onto
namespace Go.Proofs.YtejoabaanclcbaaGreat
open Go.RowKit Go.Maps

/-- What shares and Locate leave: a list of shares in a block of their own. -/
def ShareR (W : World) (L : List (Nat × Int)) (v : Value) (w : World) : Prop := ∃ g cap, v = .slice (some ⟨g, 0, none⟩) L.length cap ∧ L.length ≤ cap ∧ cap ≤ 9223372036854775807 ∧ Below W.heap.size W w ∧ W.heap.size ≤ g ∧ g < w.heap.size ∧ Shs w g L
theorem La.lower {W W0 w : World} {n gl : Nat} (h : La W n gl w) (hb : Below W0.heap.size W0 w) (hs : W0.heap.size ≤ W.heap.size) : La W0 n gl w := by
  obtain ⟨g, cap, h1, h2⟩ := h.nds
  exact ⟨hb, Nat.le_trans hs h.gl0, h.lt, ⟨g, cap, h1, h2.mono hs⟩, h.idx⟩
theorem infoShare : (Tryz.prog.info? 84).map (fun i => (i.zero, i.size, i.bytes)) = some (some (.agg #[.int .i64 0, .int .i64 0]), 2, 16) := by kernel_rfl
theorem shc_snoc (L : List (Nat × Int)) (x : Nat × Int) : shc (L ++ [x]) = shc L ++ [.int .i64 (x.1 : Int), .int .i64 x.2] := by simp [shc]
/-- What is known while the corners are gone through. -/
structure Sg (W : World) (n gl gt : Nat) (cs : Array Value) (L : List (Nat × Int)) (v : Value) (w : World) : Prop where
  la : La W n gl w
  row : Row w gt 137 cs
  own : w.ownsRow W.heap.size 84 2 v L.length (shc L)
  ne : some gl ≠ v.ownBlock
theorem Sg.under {W w w' : World} {n gl gt : Nat} {cs : Array Value} {L : List (Nat × Int)} {v : Value} (h : Sg W n gl gt cs L v w) (hb : Below w.heap.size w w') : Sg W n gl gt cs L v w' := ⟨h.la.under hb, h.row.under hb, own_under h.own hb, h.ne⟩
theorem Sg.alloc {W w : World} {n gl gt : Nat} {cs : Array Value} {L : List (Nat × Int)} {v : Value} (h : Sg W n gl gt cs L v w) (o : Obj) : Sg W n gl gt cs L v (w.alloc o) := h.under ((Below.refl _ _).alloc (Nat.le_refl _) o)
/-- The lattice is kept by whatever writes one block that is not the lattice's and not the nodes'. -/
theorem La.kept {W w w' : World} {n gl : Nat} {v : Value} {m : Nat} {xs : List Value} (h : La W n gl w) (ho : w.ownsRow W.heap.size 84 2 v m xs) (hl : some gl ≠ v.ownBlock) (hg : w.grownBy w' v.ownBlock) : La W n gl w' := by
  obtain ⟨g, cap, h1, h2⟩ := h.nds
  refine ⟨below_own h.below h.below.size ho hg, h.gl0, Nat.lt_of_lt_of_le h.lt hg.size, ⟨g, cap, (hg.cell_far ⟨gl, 0, none⟩ h.lt hl).trans h1, h2.kept hg (.inr ?_)⟩, fun f a b hf hab => (hg.cell_far ⟨gl, 1 + f * 81 + a * 9 + b, none⟩ h.lt hl).trans (h.idx f a b hf hab)⟩
  intro e
  rcases ho.2 with ⟨rfl, _⟩ | ⟨g', cap', cur, rfl, _, hh, _⟩
  · simp [Value.ownBlock] at e
  · have : g = g' := by simpa [Value.ownBlock] using e
    subst this
    rcases h2.2 with ⟨e, _⟩ | ⟨g2, cap2, cur2, e, _, hh2, _⟩
    · cases e
    · injection e with e
      injection e with e
      injection e with e
      subst e
      rw [hh2] at hh
      injection hh with hh
      injection hh with _ ht
      exact absurd ht (by decide)
theorem Sg.more {W w w' : World} {n gl gt g' cap' : Nat} {cs : Array Value} {L : List (Nat × Int)} {v : Value} {x : Nat × Int} (h : Sg W n gl gt cs L v w)
    (hown : w'.ownsRow W.heap.size 84 2 (.slice (some ⟨g', 0, none⟩) (L.length + 1) cap') (L.length + 1) (shc L ++ [.int .i64 (x.1 : Int), .int .i64 x.2])) (hg : w.grownBy w' v.ownBlock) (hat : v.ownBlock = some g' ∨ g' = w.heap.size) : Sg W n gl gt cs (L ++ [x]) (.slice (some ⟨g', 0, none⟩) (L.length + 1) cap') w' :=
  ⟨h.la.kept h.own h.ne hg, h.row.grown hg (own_ne h.own h.row (by decide)), by rw [shc_snoc]; simpa using hown, by
    rcases hat with e | e
    · rw [show (Value.slice (some ⟨g', 0, none⟩) (L.length + 1) cap').ownBlock = some g' from rfl, ← e]; exact h.ne
    · have := h.la.lt
      rw [show (Value.slice (some ⟨g', 0, none⟩) (L.length + 1) cap').ownBlock = some g' from rfl]
      intro e'; injection e' with e'; omega⟩
theorem Sg.drew {W w : World} {n gl gt : Nat} {cs : Array Value} {L : List (Nat × Int)} {v : Value} (h : Sg W n gl gt cs L v w) : Sg W n gl gt cs L v w.drew := ⟨h.la.drew, h.row, h.own, h.ne⟩
/-- What a sorted list of the shares is. -/
theorem shl_lt {n f : Nat} {T : List ((Nat × Nat) × Int)} (hn : Lat.frq n) (hf : f < 20) (hT : ∀ t ∈ T, 0 < t.2 → t.1.1 + t.1.2 ≤ n) : ∀ x ∈ Lat.shl n f T, x.1 < 1000 := by
  intro x hx
  obtain ⟨t, ht, hp, rfl⟩ := Lat.shl_mem.1 hx
  exact Lat.idx_lt hn hf (hT t ht hp)
/-- What shares leaves. -/
def ShareS (W : World) (L : List (Nat × Int)) (e : Ending) (w : World) : Prop := ∃ v L', e = .returned v ∧ L'.Perm L ∧ L'.Pairwise (fun a b : Nat × Int => a.1 ≤ b.1) ∧ ShareR W L' v w
set_option maxRecDepth 100000 in
set_option maxHeartbeats 4000000 in
theorem shares_any (n f : Nat) (a0 b0 a1 b1 a2 b2 : Nat) (c0 c1 c2 x y z : Int) (w : World) (hn : Lat.frq n) (hf : f < 20) (h0 : 0 < x → a0 + b0 ≤ n) (h1 : 0 < y → a1 + b1 ≤ n) (h2 : 0 < z → a2 + b2 ≤ n) (hp : 0 < x ∨ 0 < y ∨ 0 < z) :
    Calls Tryz.prog 94 #[.int .i64 n, .agg (tr12 f a0 b0 c0 a1 b1 c1 a2 b2 c2), .agg #[.int .i64 x, .int .i64 y, .int .i64 z]] w (ShareS w (Lat.shl n f [((a0, b0), x), ((a1, b1), y), ((a2, b2), z)])) := by
  obtain ⟨i0, hi, hz0, hz1, hz2⟩ := info_parts infoShare
  have HP := Lib.hid hp; clear hp
  have j0 : ∀ w, (Instr.index 130 (.agg #[.int .i64 x, .int .i64 y, .int .i64 z]) (.int .i64 0)).run Tryz.prog w = .ok (.int .i64 x) w := fun _ => by kernel_rfl
  have j1 : ∀ w, (Instr.index 130 (.agg #[.int .i64 x, .int .i64 y, .int .i64 z]) (.int .i64 1)).run Tryz.prog w = .ok (.int .i64 y) w := fun _ => by kernel_rfl
  have j2 : ∀ w, (Instr.index 130 (.agg #[.int .i64 x, .int .i64 y, .int .i64 z]) (.int .i64 2)).run Tryz.prog w = .ok (.int .i64 z) w := fun _ => by kernel_rfl
  go_enter Tryz.func94, Tryz.ntmps94
  go_upto_region 3 with (go_at_call 118; refine (lattice_any _ _ hn).mono ?_; rintro e w2 ⟨gl, rfl, hla⟩)
  have hb2 : Below w.heap.size w w2 := ((((Below.refl _ _).alloc (Nat.le_refl _) _).alloc (by simp) _).trans (hla.below.mono (by simp; omega)))
  have S0 : Sg w n gl w.heap.size (tr12 f a0 b0 c0 a1 b1 c1 a2 b2 c2) [] (.slice none 0 0) w2 := ⟨hla.lower hb2 (by simp; omega), ((Row.new w _ _).alloc _).under hla.below, World.ownsRow_nil _ _ _ _, by simp [Value.ownBlock]⟩
  have r5 : Row w2 (w.heap.size + 1) 130 #[.int .i64 x, .int .i64 y, .int .i64 z] := (Row.newAt (by simp)).under hla.below
  obtain ⟨q0, q1, q2⟩ := row3 r5
  have H0 := Lib.hid S0; clear S0 r5 hla
  go_wp2_with fail
  clear q0 q1 q2
  go_loopw [8, 14] (fun v t wr => (t = .int .i64 0 ∧ Sg w n gl w.heap.size (tr12 f a0 b0 c0 a1 b1 c1 a2 b2 c2) (Lat.shl n f []) v wr) ∨ (t = .int .i64 1 ∧ Sg w n gl w.heap.size (tr12 f a0 b0 c0 a1 b1 c1 a2 b2 c2) (Lat.shl n f [((a0, b0), x)]) v wr) ∨ (t = .int .i64 2 ∧ Sg w n gl w.heap.size (tr12 f a0 b0 c0 a1 b1 c1 a2 b2 c2) (Lat.shl n f [((a0, b0), x), ((a1, b1), y)]) v wr) ∨ (t = .int .i64 3 ∧ Sg w n gl w.heap.size (tr12 f a0 b0 c0 a1 b1 c1 a2 b2 c2) (Lat.shl n f [((a0, b0), x), ((a1, b1), y), ((a2, b2), z)]) v wr)) (fun _ t _ => 3 - (intOf t).toNat)
  case atStart => exact .inl ⟨rfl, H0.out⟩
  case round =>
    clear H0 hb2
    rcases hrel with ⟨rfl, S⟩ | ⟨rfl, S⟩ | ⟨rfl, S⟩ | ⟨rfl, S⟩
    · have hl3 := Lib.hid (show (Lat.shl n f []).length ≤ 0 from List.length_filterMap_le _ _)
      generalize hL : Lat.shl n f [] = L at *
      have HL := Lib.hid hL; clear hL
      obtain ⟨⟨d0, d1, d2, d3, d4, d5⟩, d6, d7, d8, d9, d10, d11⟩ := row12 S.row
      have HS := Lib.hid S; clear S
      by_cases hx : 0 < x
      · go_wp2_with fail
        refine (find_any w n gl f a0 b0 c0 _ HS.out.la hn hf (h0 hx)).mono ?_
        rintro e w3 ⟨rfl, hb3⟩
        have S3 := Lib.hid ((HS.out.under hb3).alloc (.cells #[.int .i64 (Lat.idx n f a0 b0 : Nat), .int .i64 x] 84))
        clear d0 d1 d2 d3 d4 d5 d6 d7 d8 d9 d10 d11 hb3 HS
        go_wp2_with (at_builtin; refine wpList_append_lies _ rfl (.tmp 20) (.tmp 28) 80 rfl w.heap.size 84 i0 _ 2 16 Tryz.underlying80 hi hz0 hz1 hz2 rfl (by decide) «u8» L.length (shc L) rfl S3.out.own ⟨w3.heap.size, 0, none⟩ 1 1 [.int .i64 (Lat.idx n f a0 b0 : Nat), .int .i64 x] rfl rfl (World.news_of_block (cs := #[.int .i64 (Lat.idx n f a0 b0 : Nat), .int .i64 x]) (t := 84) (fr := (0, 0)) (heap_alloc_new w3 _)) (by simp [Value.oneCell']) (by omega) (by have := hl3.out; unfold maxLen; omega) (by have := hl3.out; omega) S3.out.la.below.size (w3.heap.size + 1) (by simp) ?_; intro g' cap' w4 hown4 hgrow4 hat4 hlt4; have S4 := Lib.hid (S3.out.more (x := (Lat.idx n f a0 b0, x)) hown4 hgrow4 (hat4.imp id (fun h => by rw [h]; simp))); clear hown4 hgrow4 hat4 hlt4)
        go_roundw
        case rel => exact .inr (.inl ⟨rfl, by rw [show Lat.shl n f [((a0, b0), x)] = Lat.shl n f [] ++ [(Lat.idx n f a0 b0, x)] from Lat.shl_yes (T := []) (t := ((a0, b0), x)) hx, HL.out]; exact S4.out⟩)
        case measure => simp [intOf]
      · go_wp2_with fail
        go_roundw
        case rel => exact .inr (.inl ⟨rfl, by rw [show Lat.shl n f [((a0, b0), x)] = Lat.shl n f [] from Lat.shl_no (T := []) (t := ((a0, b0), x)) hx, HL.out]; exact HS.out⟩)
        case measure => simp [intOf]
    · have hl3 := Lib.hid (show (Lat.shl n f [((a0, b0), x)]).length ≤ 1 from List.length_filterMap_le _ _)
      generalize hL : Lat.shl n f [((a0, b0), x)] = L at *
      have HL := Lib.hid hL; clear hL
      obtain ⟨⟨d0, d1, d2, d3, d4, d5⟩, d6, d7, d8, d9, d10, d11⟩ := row12 S.row
      have HS := Lib.hid S; clear S
      by_cases hx : 0 < y
      · go_wp2_with fail
        refine (find_any w n gl f a1 b1 c1 _ HS.out.la hn hf (h1 hx)).mono ?_
        rintro e w3 ⟨rfl, hb3⟩
        have S3 := Lib.hid ((HS.out.under hb3).alloc (.cells #[.int .i64 (Lat.idx n f a1 b1 : Nat), .int .i64 y] 84))
        clear d0 d1 d2 d3 d4 d5 d6 d7 d8 d9 d10 d11 hb3 HS
        go_wp2_with (at_builtin; refine wpList_append_lies _ rfl (.tmp 20) (.tmp 28) 80 rfl w.heap.size 84 i0 _ 2 16 Tryz.underlying80 hi hz0 hz1 hz2 rfl (by decide) «u8» L.length (shc L) rfl S3.out.own ⟨w3.heap.size, 0, none⟩ 1 1 [.int .i64 (Lat.idx n f a1 b1 : Nat), .int .i64 y] rfl rfl (World.news_of_block (cs := #[.int .i64 (Lat.idx n f a1 b1 : Nat), .int .i64 y]) (t := 84) (fr := (0, 0)) (heap_alloc_new w3 _)) (by simp [Value.oneCell']) (by omega) (by have := hl3.out; unfold maxLen; omega) (by have := hl3.out; omega) S3.out.la.below.size (w3.heap.size + 1) (by simp) ?_; intro g' cap' w4 hown4 hgrow4 hat4 hlt4; have S4 := Lib.hid (S3.out.more (x := (Lat.idx n f a1 b1, y)) hown4 hgrow4 (hat4.imp id (fun h => by rw [h]; simp))); clear hown4 hgrow4 hat4 hlt4)
        go_roundw
        case rel => exact .inr (.inr (.inl ⟨rfl, by rw [show Lat.shl n f [((a0, b0), x), ((a1, b1), y)] = Lat.shl n f [((a0, b0), x)] ++ [(Lat.idx n f a1 b1, y)] from Lat.shl_yes (T := [((a0, b0), x)]) (t := ((a1, b1), y)) hx, HL.out]; exact S4.out⟩))
        case measure => simp [intOf]
      · go_wp2_with fail
        go_roundw
        case rel => exact .inr (.inr (.inl ⟨rfl, by rw [show Lat.shl n f [((a0, b0), x), ((a1, b1), y)] = Lat.shl n f [((a0, b0), x)] from Lat.shl_no (T := [((a0, b0), x)]) (t := ((a1, b1), y)) hx, HL.out]; exact HS.out⟩))
        case measure => simp [intOf]
    · have hl3 := Lib.hid (show (Lat.shl n f [((a0, b0), x), ((a1, b1), y)]).length ≤ 2 from List.length_filterMap_le _ _)
      generalize hL : Lat.shl n f [((a0, b0), x), ((a1, b1), y)] = L at *
      have HL := Lib.hid hL; clear hL
      obtain ⟨⟨d0, d1, d2, d3, d4, d5⟩, d6, d7, d8, d9, d10, d11⟩ := row12 S.row
      have HS := Lib.hid S; clear S
      by_cases hx : 0 < z
      · go_wp2_with fail
        refine (find_any w n gl f a2 b2 c2 _ HS.out.la hn hf (h2 hx)).mono ?_
        rintro e w3 ⟨rfl, hb3⟩
        have S3 := Lib.hid ((HS.out.under hb3).alloc (.cells #[.int .i64 (Lat.idx n f a2 b2 : Nat), .int .i64 z] 84))
        clear d0 d1 d2 d3 d4 d5 d6 d7 d8 d9 d10 d11 hb3 HS
        go_wp2_with (at_builtin; refine wpList_append_lies _ rfl (.tmp 20) (.tmp 28) 80 rfl w.heap.size 84 i0 _ 2 16 Tryz.underlying80 hi hz0 hz1 hz2 rfl (by decide) «u8» L.length (shc L) rfl S3.out.own ⟨w3.heap.size, 0, none⟩ 1 1 [.int .i64 (Lat.idx n f a2 b2 : Nat), .int .i64 z] rfl rfl (World.news_of_block (cs := #[.int .i64 (Lat.idx n f a2 b2 : Nat), .int .i64 z]) (t := 84) (fr := (0, 0)) (heap_alloc_new w3 _)) (by simp [Value.oneCell']) (by omega) (by have := hl3.out; unfold maxLen; omega) (by have := hl3.out; omega) S3.out.la.below.size (w3.heap.size + 1) (by simp) ?_; intro g' cap' w4 hown4 hgrow4 hat4 hlt4; have S4 := Lib.hid (S3.out.more (x := (Lat.idx n f a2 b2, z)) hown4 hgrow4 (hat4.imp id (fun h => by rw [h]; simp))); clear hown4 hgrow4 hat4 hlt4)
        go_roundw
        case rel => exact .inr (.inr (.inr ⟨rfl, by rw [show Lat.shl n f [((a0, b0), x), ((a1, b1), y), ((a2, b2), z)] = Lat.shl n f [((a0, b0), x), ((a1, b1), y)] ++ [(Lat.idx n f a2 b2, z)] from Lat.shl_yes (T := [((a0, b0), x), ((a1, b1), y)]) (t := ((a2, b2), z)) hx, HL.out]; exact S4.out⟩))
        case measure => simp [intOf]
      · go_wp2_with fail
        go_roundw
        case rel => exact .inr (.inr (.inr ⟨rfl, by rw [show Lat.shl n f [((a0, b0), x), ((a1, b1), y), ((a2, b2), z)] = Lat.shl n f [((a0, b0), x), ((a1, b1), y)] from Lat.shl_no (T := [((a0, b0), x), ((a1, b1), y)]) (t := ((a2, b2), z)) hx, HL.out]; exact HS.out⟩))
        case measure => simp [intOf]
    · have hT : ∀ t ∈ [((a0, b0), x), ((a1, b1), y), ((a2, b2), z)], 0 < t.2 → t.1.1 + t.1.2 ≤ n := by
        intro t ht
        simp only [List.mem_cons, List.not_mem_nil, or_false] at ht
        rcases ht with rfl | rfl | rfl
        · exact h0
        · exact h1
        · exact h2
      have hlt := Lib.hid (shl_lt hn hf hT)
      have hl3 := Lib.hid (show (Lat.shl n f [((a0, b0), x), ((a1, b1), y), ((a2, b2), z)]).length ≤ 3 from List.length_filterMap_le _ _)
      have hpos : Hid (0 < (Lat.shl n f [((a0, b0), x), ((a1, b1), y), ((a2, b2), z)]).length) := Lib.hid (by
        rcases HP.out with q | q | q
        · exact List.length_pos_of_mem (Lat.shl_mem.2 ⟨((a0, b0), x), by simp, q, rfl⟩)
        · exact List.length_pos_of_mem (Lat.shl_mem.2 ⟨((a1, b1), y), by simp, q, rfl⟩)
        · exact List.length_pos_of_mem (Lat.shl_mem.2 ⟨((a2, b2), z), by simp, q, rfl⟩))
      clear hT
      generalize Lat.shl n f [((a0, b0), x), ((a1, b1), y), ((a2, b2), z)] = L at *
      rcases S.own.2 with ⟨_, h⟩ | ⟨g', cap', cur, hv, hge, hh, hle, hmax, hsz, htk⟩
      · exact absurd h (Nat.ne_of_gt hpos.out)
      · subst hv
        have hown := Lib.hid S.own
        have hbel := Lib.hid S.la.below
        have hg5 : Hid (g' < wr.heap.size) := Lib.hid (Array.getElem?_eq_some_iff.1 hh).1
        have HMX := Lib.hid hmax
        have HLE := Lib.hid hle
        have HGE := Lib.hid hge
        clear S hh hsz htk hmax hle hge j0 j1 j2
        go_wp2_with fail
        refine (sort_any g' cap' L _ hlt.out (by have := hl3.out; omega) hg5.out (shs_of_own hown.out rfl) (fun j => hown.out.frozenAt j)).mono ?_
        rintro e w5 ⟨rfl, hgr, L', hperm, hsort, hshs⟩
        have HG := Lib.hid hgr; clear hgr
        have HR : Hid (L'.Perm L ∧ L'.Pairwise (fun a b : Nat × Int => a.1 ≤ b.1) ∧ Shs w5 g' L') := Lib.hid ⟨hperm, hsort, hshs⟩
        clear hperm hsort hshs
        go_wp2_with fail
        go_ret
        exact ⟨.slice (some ⟨g', 0, none⟩) L.length cap', L', rfl, HR.out.1, HR.out.2.1, g', cap', by rw [HR.out.1.length_eq], by rw [HR.out.1.length_eq]; exact HLE.out, by have := HMX.out; unfold maxLen at this; omega, below_by hbel.out hbel.out.size HGE.out HG.out, HGE.out, Nat.lt_of_lt_of_le hg5.out HG.out.size, HR.out.2.2⟩
end Go.Proofs.YtejoabaanclcbaaGreat



namespace Go.Proofs.YtejoabaanclcbaaGreat
open Go.RowKit Go.Maps

/-- What Locate leaves for a frequency and a place. -/
def LocateR (W : World) (L : List (Nat × Int)) (e : Ending) (w : World) : Prop := ∃ v, e = .returned (.tuple #[v, .int .i64 0]) ∧ ShareR W L v w
theorem locate_bad (n F a b c : Int) (w : World) (h : ¬ (1 ≤ n ∧ n ≤ 8) ∨ vb F a b c = false) :
    Calls Tryz.prog 70 #[.int .i64 n, .agg #[.int .i64 F, .int .i64 a, .int .i64 b, .int .i64 c]] w fun e w' => e = .returned (.tuple #[.slice none 0 0, .int .i64 1]) ∧ Below w.heap.size w w' := by
  by_cases h1 : 1 ≤ n ∧ n ≤ 8
  · have h2 : vb F a b c = false := h.resolve_left (fun k => k h1)
    have hd : decide (1 ≤ n ∧ n ≤ 8) = true := decide_eq_true h1
    clear h h1
    go_enter Tryz.func70, Tryz.ntmps70
    go_wp2_with fail
    refine (isFrequency_any _ _).mono ?_
    rintro e w1 ⟨rfl, rfl⟩
    go_wp2_with fail
    refine (valid_any _ _ _ _ _).mono ?_
    rintro e w2 ⟨rfl, hb2⟩
    go_wp2_with fail
    go_ret2
    exact ⟨rfl, ((Below.refl _ _).alloc (Nat.le_refl _) _).trans (hb2.mono (by simp))⟩
  · have hd : decide (1 ≤ n ∧ n ≤ 8) = false := decide_eq_false h1
    clear h h1
    go_enter Tryz.func70, Tryz.ntmps70
    go_wp2_with fail
    refine (isFrequency_any _ _).mono ?_
    rintro e w1 ⟨rfl, rfl⟩
    go_wp2_with fail
    go_ret2
    exact ⟨rfl, (Below.refl _ _).alloc (Nat.le_refl _) _⟩
theorem shares_loc {W w' : World} {n f : Nat} {A B C : Int} {e : Ending} (hn : Lat.frq n) (hv : Ico.Vld f A B C) {T : List ((Nat × Nat) × Int)} (hT : Lat.tri n A B C = T) (h : ShareS W (Lat.shl n f T) e w') : ∃ v, e = .returned v ∧ ShareR W (Lat.loc n f A B C) v w' := by
  obtain ⟨v, L', he, hp, hs, hr⟩ := h
  rw [← hT] at hp
  rw [Lat.loc_uniq hn hv hp hs] at hr
  exact ⟨v, he, hr⟩
theorem vb_of {f : Nat} {a b c : Int} (h : Ico.Vld f a b c) : vb f a b c = true := by
  unfold Ico.Vld at h
  unfold vb
  exact decide_eq_true (by omega)
theorem tri_cases {n f : Nat} {A B C : Int} (hn : Lat.frq n) (hv : Ico.Vld f A B C) :
    (Lat.rs n A = 0 ∧ Lat.rs n B = 0 ∧ Lat.rs n C = 0 ∧ Lat.xa n A + Lat.xa n B + Lat.xa n C = n ∧ Lat.tri n A B C = [((Lat.xa n A, Lat.xa n B), 840), ((Lat.xa n A, Lat.xa n B), 0), ((Lat.xa n A, Lat.xa n B), 0)]) ∨
    (Lat.rs n A + Lat.rs n B + Lat.rs n C = 840 ∧ Lat.xa n A + Lat.xa n B + Lat.xa n C + 1 = n ∧ Lat.tri n A B C = [((Lat.xa n A + 1, Lat.xa n B), Lat.rs n A), ((Lat.xa n A, Lat.xa n B + 1), Lat.rs n B), ((Lat.xa n A, Lat.xa n B), Lat.rs n C)]) ∨
    (Lat.rs n A + Lat.rs n B + Lat.rs n C = 1680 ∧ Lat.xa n A + Lat.xa n B + Lat.xa n C + 2 = n ∧ Lat.tri n A B C = [((Lat.xa n A, Lat.xa n B + 1), 840 - Lat.rs n A), ((Lat.xa n A + 1, Lat.xa n B), 840 - Lat.rs n B), ((Lat.xa n A + 1, Lat.xa n B + 1), 840 - Lat.rs n C)]) := by
  unfold Lat.tri
  rcases (Lat.cut hn hv).2 with ⟨a, b, c, d⟩ | ⟨a, b⟩ | ⟨a, b⟩
  · exact .inl ⟨a, b, c, d, by rw [if_pos (by omega)]⟩
  · exact .inr (.inl ⟨a, b, by rw [if_neg (by omega), if_pos a]⟩)
  · exact .inr (.inr ⟨a, b, by rw [if_neg (by omega), if_neg (by omega)]⟩)
theorem ShareR.lower {W W0 w : World} {L : List (Nat × Int)} {v : Value} (h : ShareR W L v w) (hb : Below W0.heap.size W0 W) : ShareR W0 L v w := by
  obtain ⟨g, cap, h1, h2, h3, h4, h5, h6, h7⟩ := h
  exact ⟨g, cap, h1, h2, h3, hb.trans (h4.mono hb.size), Nat.le_trans hb.size h5, h6, h7⟩
set_option maxRecDepth 100000 in
set_option maxHeartbeats 4000000 in
theorem locate_yes (n f : Nat) (A B C : Int) (w : World) (hn : Lat.frq n) (hv : Ico.Vld f A B C) :
    Calls Tryz.prog 70 #[.int .i64 n, .agg #[.int .i64 f, .int .i64 A, .int .i64 B, .int .i64 C]] w (LocateR w (Lat.loc n f A B C)) := by
  have hvb := vb_of hv
  have HV := Lib.hid hv
  have HN := Lib.hid hn
  obtain ⟨-, A1, A2, B1, B2, C1, C2, -⟩ := hv
  obtain ⟨dA1, dA2, p1, p2, rA0, rA1⟩ := Lat.div_eq hn A1
  obtain ⟨dB1, dB2, -, -, rB0, rB1⟩ := Lat.div_eq hn B1
  obtain ⟨dC1, dC2, -, -, rC0, rC1⟩ := Lat.div_eq hn C1
  have n1 : 1 ≤ (n : Int) ∧ (n : Int) ≤ 8 := by unfold Lat.frq at hn; omega
  obtain ⟨n1, n2⟩ := n1
  clear hn
  obtain ⟨⟨s1, s2, s3, s4, s5, s6⟩, hc⟩ := Lat.cut HN.out HV.out
  have HC := Lib.hid hc; clear hc
  have x1 : IntKind.i64.wrap (A % ((840 : Int) / (n : Int)) * (n : Int)) = Lat.rs n A := by rw [dA2]; exact IntWalk.i64_in _ (by omega)
  have x2 : IntKind.i64.wrap (B % ((840 : Int) / (n : Int)) * (n : Int)) = Lat.rs n B := by rw [dB2]; exact IntWalk.i64_in _ (by omega)
  have x3 : IntKind.i64.wrap (C % ((840 : Int) / (n : Int)) * (n : Int)) = Lat.rs n C := by rw [dC2]; exact IntWalk.i64_in _ (by omega)
  have z0 : ((840 : Int) / (n : Int) == 0) = false := beq_eq_false_iff_ne.2 (by omega)
  have tA : A.tdiv ((840 : Int) / (n : Int)) = (Lat.xa n A : Int) := by rw [Int.tdiv_eq_ediv_of_nonneg A1]; exact dA1
  have tB : B.tdiv ((840 : Int) / (n : Int)) = (Lat.xa n B : Int) := by rw [Int.tdiv_eq_ediv_of_nonneg B1]; exact dB1
  have tC : C.tdiv ((840 : Int) / (n : Int)) = (Lat.xa n C : Int) := by rw [Int.tdiv_eq_ediv_of_nonneg C1]; exact dC1
  have uA : A.tmod ((840 : Int) / (n : Int)) = A % ((840 : Int) / (n : Int)) := Int.tmod_eq_emod_of_nonneg A1
  have uB : B.tmod ((840 : Int) / (n : Int)) = B % ((840 : Int) / (n : Int)) := Int.tmod_eq_emod_of_nonneg B1
  have uC : C.tmod ((840 : Int) / (n : Int)) = C % ((840 : Int) / (n : Int)) := Int.tmod_eq_emod_of_nonneg C1
  have y1 : IntKind.i64.wrap (A % ((840 : Int) / (n : Int))) = A % ((840 : Int) / (n : Int)) := IntWalk.i64_in _ (by omega)
  have y2 : IntKind.i64.wrap (B % ((840 : Int) / (n : Int))) = B % ((840 : Int) / (n : Int)) := IntWalk.i64_in _ (by omega)
  have y3 : IntKind.i64.wrap (C % ((840 : Int) / (n : Int))) = C % ((840 : Int) / (n : Int)) := IntWalk.i64_in _ (by omega)
  have a8 : Lat.xa n A ≤ 8 ∧ Lat.xa n B ≤ 8 ∧ Lat.xa n C ≤ 8 := by have := HC.out; omega
  have v1 : IntKind.i64.wrap (Lat.xa n A : Int) = (Lat.xa n A : Int) := IntWalk.i64_in _ (by omega)
  have v2 : IntKind.i64.wrap (Lat.xa n B : Int) = (Lat.xa n B : Int) := IntWalk.i64_in _ (by omega)
  have v3 : IntKind.i64.wrap (Lat.xa n C : Int) = (Lat.xa n C : Int) := IntWalk.i64_in _ (by omega)
  have A8 := Lib.hid a8; clear a8
  clear dA2 dB2 dC2
  go_enter Tryz.func70, Tryz.ntmps70
  go_wp2_with fail
  refine (isFrequency_yes _ _ HN.out).mono ?_
  rintro e w1 ⟨rfl, rfl⟩
  go_wp2_with fail
  have r0 := Row.new w #[.int .i64 f, .int .i64 A, .int .i64 B, .int .i64 C] 32
  refine (valid_any _ _ _ _ _).mono ?_
  rintro e w2 ⟨rfl, hb2⟩
  rw [hvb]
  have r2 := r0.under hb2
  have b2 : Below w.heap.size w w2 := ((Below.refl _ _).alloc (Nat.le_refl _) _).trans (hb2.mono (by simp))
  clear r0 hb2
  generalize w.heap.size = gp at r2
  obtain ⟨c0, c1, c2, c3⟩ := row4 r2
  go_upto_region 4 with fail
  have eg := World.new_ne w2 ⟨gp, 0, none⟩ c0
  generalize hq : (840 : Int) / (n : Int) = q at *
  clear hq
  have zq : ¬ q = 0 := by omega
  go_region_held3 (fun w' => w'.cell? ⟨gp, 0, none⟩ = some (.int .i64 f) ∧ w'.cell? ⟨gp, 1, none⟩ = some (.int .i64 A) ∧ w'.cell? ⟨gp, 2, none⟩ = some (.int .i64 B) ∧ w'.cell? ⟨gp, 3, none⟩ = some (.int .i64 C)) (go_keep) (fail)
  go_upto_region 5 with fail
  refine forget (fun Z => Below w.heap.size w Z ∧ Row Z gp 32 #[.int .i64 f, .int .i64 A, .int .i64 B, .int .i64 C] ∧ Row Z w2.heap.size 134 #[.int .i64 f, .int .i64 (Lat.xa n A : Nat), .int .i64 (Lat.xa n B : Nat), .int .i64 (Lat.xa n C : Nat)])
    ⟨(b2.alloc b2.size _).drew, (r2.alloc _).drew, (Row.new _ _ _).drew⟩ ?_
  clear b2 r2 c0 c1 c2 c3 eg
  generalize w2.heap.size = gq at *
  rintro Z ⟨bZ, r1, r2⟩
  obtain ⟨c0, c1, c2, c3⟩ := row4 r1
  obtain ⟨d0, d1, d2, d3⟩ := row4 r2
  have BZ := Lib.hid bZ; clear bZ
  have R2 := Lib.hid r2; clear r2 r1
  go_quiet (fail)
  have HT := Lib.hid (tri_cases HN.out HV.out)
  generalize Lat.rs n A = X at *
  generalize Lat.rs n B = Y at *
  generalize Lat.rs n C = U at *
  generalize Lat.xa n A = a at *
  generalize Lat.xa n B = b at *
  generalize Lat.xa n C = c at *
  clear x1 x2 x3 y1 y2 y3 v1 v2 v3 tA tB tC uA uB uC dA1 dB1 dC1 z0 zq rA0 rA1 rB0 rB1 rC0 rC1 p1 p2
  have a0 : 0 ≤ (a : Int) ∧ (a : Int) ≤ 8 ∧ 0 ≤ (b : Int) ∧ (b : Int) ≤ 8 ∧ 0 ≤ (c : Int) ∧ (c : Int) ≤ 8 := by have := A8.out; omega
  obtain ⟨i1, i2, i3, i4, i5, i6⟩ := a0
  rcases HT.out with ⟨hX, hY, hU, hab, hT⟩ | ⟨hS, hab, hT⟩ | ⟨hS, hab, hT⟩
  · have KT := Lib.hid hT; clear hT
    have KA := Lib.hid hab; clear hab
    subst hX hY hU
    go_wp2_with fail
    refine (shares_any n f a b a b a b c c c 840 0 0 _ HN.out HV.out.1 (fun _ => by have := KA.out; omega) (fun _ => by have := KA.out; omega) (fun _ => by have := KA.out; omega) (.inl (by omega))).mono ?_
    rintro e w5 h5
    obtain ⟨v, rfl, hr⟩ := shares_loc HN.out HV.out KT.out h5
    have HR := Lib.hid hr; clear hr h5
    go_wp2_with fail
    go_ret2
    exact ⟨v, rfl, HR.out.lower (below_drewN BZ.out _)⟩
  · have KT := Lib.hid hT; clear hT
    have KA := Lib.hid hab; clear hab
    have t0 : (X + Y + U == 0) = false := beq_eq_false_iff_ne.2 (by omega)
    have t1 : (X + Y + U == 840) = true := beq_iff_eq.2 hS
    have KS := Lib.hid hS; clear hS
    go_wp2_with fail
    refine (upright_any _ _ _ _ _ i1 i2 i3 i4 i5 i6).mono ?_
    rintro e w5 ⟨rfl, hb5⟩
    have B5 := Lib.hid ((below_drewN BZ.out _).trans (hb5.mono BZ.out.size)); clear hb5
    go_wp2_with fail
    refine (shares_any n f (a + 1) b a (b + 1) a b c c (c + 1) X Y U _ HN.out HV.out.1 (fun _ => by have := KA.out; omega) (fun _ => by have := KA.out; omega) (fun _ => by have := KA.out; omega) (by have := KS.out; omega)).mono ?_
    rintro e w6 h6
    obtain ⟨v, rfl, hr⟩ := shares_loc HN.out HV.out KT.out h6
    have HR := Lib.hid hr; clear hr h6
    go_wp2_with fail
    go_ret2
    exact ⟨v, rfl, HR.out.lower B5.out⟩
  · have KT := Lib.hid hT; clear hT
    have KA := Lib.hid hab; clear hab
    have t0 : (X + Y + U == 0) = false := beq_eq_false_iff_ne.2 (by omega)
    have t1 : (X + Y + U == 840) = false := beq_eq_false_iff_ne.2 (by omega)
    have KS := Lib.hid hS; clear hS
    go_wp2_with fail
    refine (inverted_any _ _ _ _ _ i1 i2 i3 i4 i5 i6).mono ?_
    rintro e w5 ⟨rfl, hb5⟩
    have B5 := Lib.hid ((below_drewN BZ.out _).trans (hb5.mono BZ.out.size)); clear hb5
    go_wp2_with fail
    refine (shares_any n f a (b + 1) (a + 1) b (a + 1) (b + 1) (c + 1) (c + 1) c (840 - X) (840 - Y) (840 - U) _ HN.out HV.out.1 (fun _ => by have := KA.out; omega) (fun _ => by have := KA.out; omega) (fun _ => by have := KA.out; omega) (by have := KS.out; omega)).mono ?_
    rintro e w6 h6
    obtain ⟨v, rfl, hr⟩ := shares_loc HN.out HV.out KT.out h6
    have HR := Lib.hid hr; clear hr h6
    go_wp2_with fail
    go_ret2
    exact ⟨v, rfl, HR.out.lower B5.out⟩
end Go.Proofs.YtejoabaanclcbaaGreat


