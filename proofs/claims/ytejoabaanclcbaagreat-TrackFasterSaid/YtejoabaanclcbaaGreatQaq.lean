/- Texts of this proof. -/
import Derived.Test.YtejoabaanclcbaaGreatQal
namespace Go.Proofs.YtejoabaanclcbaaGreat
open Go.RowKit

theorem bel_alloc {w w' : World} {o : Obj} (h : Below (w.alloc o).heap.size (w.alloc o) w') : Below w.heap.size w w' :=
  ((Below.refl w.heap.size w).alloc (Nat.le_refl _) o).trans (h.mono (by simp))
set_option maxRecDepth 100000 in
set_option maxHeartbeats 2000000 in
theorem refshare_some (g cap : Nat) (L : List (Nat × Int)) (x : Nat) (y : Int) (w : World) (hy : y ≠ 0) (hp : 0 < L.length) (hl : L.length ≤ 2) (hc : L.length ≤ cap) (hm : cap ≤ maxLen) (hg : g < w.heap.size) (hs : Shs w g L) :
    Calls Tryz.prog 66 #[.slice (some ⟨g, 0, none⟩) L.length cap, .int .i64 x, .int .i64 y] w (RShareP w L (x, y)) := by
  obtain ⟨i0, hi, hz0, hz1, hz2⟩ := info_parts infoShare
  have HS := Lib.hid hs; clear hs
  have HM := Lib.hid hm; clear hm
  go_enter Tryz.func66, Tryz.ntmps66
  go_wp2_with fail
  go_loopw [7] (fun t wr => ∃ k : Nat, k ≤ L.length ∧ t = .int .i64 k ∧ (∀ i (h : i < L.length), i < k → (L[i]).1 < x) ∧ wr = w) (fun t _ => L.length - (intOf t).toNat)
  case atStart => exact ⟨0, by omega, rfl, fun i h h' => by omega, rfl⟩
  case round =>
    obtain ⟨k, hk, rfl, ht, hw⟩ := hrel
    subst hw
    have HT := Lib.hid ht; clear ht
    have k0 : (0 : Int) ≤ (k : Int) := by omega
    have KL := Lib.hid (show k ≤ L.length ∧ L.length ≤ 2 from ⟨hk, hl⟩)
    by_cases hlt : k < L.length
    · obtain ⟨c0, c1⟩ := HS.out k hlt
      have k1 : (k : Int) < (L.length : Int) := by omega
      have x1 : IntKind.i64.wrap (k : Int) = (k : Int) := IntWalk.i64_in _ (by omega)
      by_cases h1 : (L[k]).1 < x
      · have hs' : Hid (∀ i (h : i < L.length), i < k + 1 → (L[i]).1 < x) := Lib.hid (fun i h h' => by
          rcases Nat.lt_or_ge i k with q | q
          · exact HT.out i h q
          · obtain rfl : i = k := by omega
            exact h1)
        have h1' : (((L[k]).1 : Nat) : Int) < (x : Int) := by omega
        generalize L[k] = z at *
        clear h1
        go_wp2_with fail
        go_roundw
        case rel => exact ⟨k + 1, by omega, by go_num, hs'.out, by trivial⟩
        case measure => simp [intOf]; omega
      · have hs' : Hid (∀ h : k < L.length, x ≤ (L[k]).1) := Lib.hid (fun h => by omega)
        have h1' : ¬ (((L[k]).1 : Nat) : Int) < (x : Int) := by omega
        generalize L[k] = z at *
        clear h1
        have k3 : ¬ cap = k := by omega
        have hlk : (L.drop k).length = L.length - k := List.length_drop
        have HK := Lib.hid (show k < L.length ∧ L.length ≤ 2 ∧ (L.drop k).length = L.length - k from ⟨hlt, hl, hlk⟩)
        clear hlk
        go_wp2_with (at_builtin; first
          | (refine wpList_append_grows _ rfl (.tmp 30) (.tmp 33) 80 rfl 84 i0 _ 2 16 Tryz.underlying80 hi hz0 hz1 hz2 rfl (by decide) (some ⟨wr.heap.size, 0, none⟩) 1 1 (shc [(x, y)]) rfl (fun h => by cases h) rfl (fun b h => by cases h; exact (World.news_of_block (cs := #[.int .i64 (x : Int), .int .i64 y]) (t := 84) (fr := (0, 0)) (heap_alloc_new wr _))) ⟨g, k * 2, none⟩ (L.length - k) (cap - k) (shc (L.drop k)) rfl (by rw [shc_len, HK.out.2.2]) (fun j u hu => by rw [Addr.add_lit, ((Below.refl wr.heap.size wr).alloc (Nat.le_refl _) _).cell (p := ⟨g, k * 2 + j, none⟩) hg]; exact shs_cut HS.out j u hu) (shc_one _) (by have := HK.out; omega) (by have := HK.out; unfold maxLen; omega) (by have := HK.out; omega) ?_
             intro v1 w1 hown1 hgr1
             rw [← shc_app] at hown1
             have B1 := Lib.hid (bel_alloc (below_new hgr1))
             obtain ⟨g1, cap1, rfl, p1, p2, p3, p4, p5⟩ : ∃ g1 cap1, v1 = .slice (some ⟨g1, 0, none⟩) (1 + (L.length - k)) cap1 ∧ 1 + (L.length - k) ≤ cap1 ∧ cap1 ≤ maxLen ∧ g1 < w1.heap.size ∧ Shs w1 g1 ([(x, y)] ++ L.drop k) ∧ Shs w1 g L := by
               rcases sl_of_own hown1 (by simp; omega) (by omega) with ⟨h, -⟩ | ⟨g1, cap1, q1, q2, q3, q4, q5, q6⟩
               · cases h
               · exact ⟨g1, cap1, by rw [q1]; simp; omega, by simp at q3; omega, q4, q5, q6, HS.out.under hg B1.out⟩
             have P := Lib.hid (show 1 + (L.length - k) ≤ cap1 ∧ cap1 ≤ maxLen ∧ g1 < w1.heap.size ∧ Shs w1 g1 ([(x, y)] ++ L.drop k) ∧ Shs w1 g L from ⟨p1, p2, p3, p4, p5⟩)
             clear hown1 hgr1 p1 p2 p3 p4 p5)
          | (refine wpList_append_grows _ rfl (.tmp 38) (.tmp 39) 80 rfl 84 i0 _ 2 16 Tryz.underlying80 hi hz0 hz1 hz2 rfl (by decide) (some ⟨g, 0, none⟩) k k (shc (L.take k)) rfl (fun h => by cases h) (by rw [shc_len, List.length_take, Nat.min_eq_left KL.out.1]) (fun b h j u hu => by cases h; rw [Addr.add_lit, Nat.zero_add]; exact shs_beg P.out.2.2.2.2 j u hu) ⟨g1, 0, none⟩ (1 + (L.length - k)) cap1 (shc ([(x, y)] ++ L.drop k)) rfl (by rw [shc_len]; simp; omega) (fun j u hu => by rw [Addr.add_lit, Nat.zero_add]; exact shs_cells P.out.2.2.2.1 j u hu) (shc_one _) (by omega) (by have := KL.out; unfold maxLen; omega) (by have := KL.out; omega) ?_
             intro v2 w2 hown2 hgr2
             rw [← shc_app] at hown2
             have HW2 := Lib.hid hown2
             have B2 := Lib.hid (B1.out.trans ((below_new hgr2).mono B1.out.size))
             clear hown2 hgr2))
        go_ret
        exact ⟨v2, k, rfl, B2.out, KL.out.1, sl_of_own (L := insK k (x, y) L) HW2.out (by rw [insK_len KL.out.1]; have := KL.out; omega) (by omega), HT.out, hs'.out⟩
    · have hke : k = L.length := by omega
      subst hke
      clear hlt KL
      by_cases hck : cap = L.length
      · subst hck
        go_wp2_with (at_builtin; first
          | (refine wpList_append_nothing _ rfl (.tmp 30) (.tmp 33) 80 rfl 84 i0 Tryz.underlying80 hi _ 1 1 (Nat.le_refl _) rfl _ rfl (Go.Src.ofSlice _ Tryz.underlying80 _ 0 _ [] (by simp) (fun j u h => by simp at h) (fun u h => by cases h)) ?_)
          | (refine wpList_append_grows _ rfl (.tmp 38) (.tmp 39) 80 rfl 84 i0 _ 2 16 Tryz.underlying80 hi hz0 hz1 hz2 rfl (by decide) (some ⟨g, 0, none⟩) L.length L.length (shc (L.take L.length)) rfl (fun h => by cases h) (by rw [shc_len, List.length_take, Nat.min_self]) (fun b h j u hu => by cases h; rw [Addr.add_lit, Nat.zero_add, ((Below.refl wr.heap.size wr).alloc (Nat.le_refl _) _).cell (p := ⟨g, j, none⟩) hg]; exact shs_beg HS.out j u hu) ⟨wr.heap.size, 0, none⟩ 1 1 (shc ([(x, y)] ++ L.drop L.length)) rfl (by rw [shc_len]; simp) (by rw [List.drop_length]; exact World.news_of_block (cs := #[.int .i64 (x : Int), .int .i64 y]) (t := 84) (fr := (0, 0)) (heap_alloc_new wr _)) (shc_one _) (by omega) (by unfold maxLen; omega) (by omega) ?_
             intro v2 w2 hown2 hgr2
             rw [← shc_app] at hown2
             have HW2 := Lib.hid hown2
             have B2 := Lib.hid (bel_alloc (below_new hgr2))
             clear hown2 hgr2))
        go_ret
        exact ⟨v2, L.length, rfl, B2.out, Nat.le_refl _, sl_of_own (L := insK L.length (x, y) L) HW2.out (by rw [insK_len (Nat.le_refl _)]) (by omega), HT.out, fun h => absurd h (Nat.lt_irrefl _)⟩
      · have k3 : ¬ cap = L.length := hck
        clear hck
        go_wp2_with (at_builtin; first
          | (refine wpList_append_nothing _ rfl (.tmp 30) (.tmp 33) 80 rfl 84 i0 Tryz.underlying80 hi _ 1 1 (Nat.le_refl _) rfl _ rfl (Go.Src.ofSlice _ Tryz.underlying80 _ 0 _ [] (by simp) (fun j u h => by simp at h) (fun u h => by cases h)) ?_)
          | (refine wpList_append_grows _ rfl (.tmp 38) (.tmp 39) 80 rfl 84 i0 _ 2 16 Tryz.underlying80 hi hz0 hz1 hz2 rfl (by decide) (some ⟨g, 0, none⟩) L.length L.length (shc (L.take L.length)) rfl (fun h => by cases h) (by rw [shc_len, List.length_take, Nat.min_self]) (fun b h j u hu => by cases h; rw [Addr.add_lit, Nat.zero_add, ((Below.refl wr.heap.size wr).alloc (Nat.le_refl _) _).cell (p := ⟨g, j, none⟩) hg]; exact shs_beg HS.out j u hu) ⟨wr.heap.size, 0, none⟩ 1 1 (shc ([(x, y)] ++ L.drop L.length)) rfl (by rw [shc_len]; simp) (by rw [List.drop_length]; exact World.news_of_block (cs := #[.int .i64 (x : Int), .int .i64 y]) (t := 84) (fr := (0, 0)) (heap_alloc_new wr _)) (shc_one _) (by omega) (by unfold maxLen; omega) (by omega) ?_
             intro v2 w2 hown2 hgr2
             rw [← shc_app] at hown2
             have HW2 := Lib.hid hown2
             have B2 := Lib.hid (bel_alloc (below_new hgr2))
             clear hown2 hgr2))
        go_ret
        exact ⟨v2, L.length, rfl, B2.out, Nat.le_refl _, sl_of_own (L := insK L.length (x, y) L) HW2.out (by rw [insK_len (Nat.le_refl _)]) (by omega), HT.out, fun h => absurd h (Nat.lt_irrefl _)⟩
end Go.Proofs.YtejoabaanclcbaaGreat



namespace Go.Proofs.YtejoabaanclcbaaGreat
open Go.RowKit

/-- The shares of the points so far, as the reference holds them. -/
def RL (w : World) (n f : Nat) (T : List ((Nat × Nat) × Int)) (v : Value) : Prop := ∃ L, SL w L v ∧ L.Perm (Lat.shl n f T) ∧ L.Pairwise (fun a b : Nat × Int => a.1 ≤ b.1)
theorem RL.start (w : World) (n f : Nat) : RL w n f [] (.slice none 0 0) := ⟨[], .inl ⟨rfl, rfl⟩, List.Perm.nil, List.Pairwise.nil⟩
theorem RL.under {w w' : World} {n f : Nat} {T : List ((Nat × Nat) × Int)} {v : Value} (h : RL w n f T v) (hb : Below w.heap.size w w') : RL w' n f T v := by
  obtain ⟨L, a, b⟩ := h
  exact ⟨L, a.under hb, b⟩
/-- What one more call of share leaves. -/
def RLP (W : World) (n f : Nat) (T : List ((Nat × Nat) × Int)) (e : Ending) (w : World) : Prop := ∃ v, e = .returned v ∧ Below W.heap.size W w ∧ RL w n f T v
theorem refshare_step (n f a b : Nat) (T : List ((Nat × Nat) × Int)) (v : Value) (y : Int) (w : World) (h : RL w n f T v) (hT : T.length ≤ 2) (hy : 0 ≤ y) :
    Calls Tryz.prog 66 #[v, .int .i64 (Lat.idx n f a b : Nat), .int .i64 y] w (RLP w n f (T ++ [((a, b), y)])) := by
  obtain ⟨L, hS, hp, hs⟩ := h
  have hl : L.length ≤ 2 := by
    rw [hp.length_eq]
    exact Nat.le_trans (List.length_filterMap_le _ _) hT
  by_cases h0 : y = 0
  · subst h0
    refine (refshare_zero _ _ _).mono ?_
    rintro e w' ⟨rfl, rfl⟩
    exact ⟨v, rfl, Below.refl _ _, L, hS, by rw [Lat.shl_no (t := ((a, b), (0 : Int))) (by simp)]; exact hp, hs⟩
  · have hpos : 0 < y := by omega
    have key : Calls Tryz.prog 66 #[v, .int .i64 (Lat.idx n f a b : Nat), .int .i64 y] w (RShareP w L (Lat.idx n f a b, y)) := by
      rcases hS with ⟨rfl, rfl⟩ | ⟨g, cap, rfl, h1, h2, h3, h4, h5⟩
      · exact refshare_nil _ _ _ h0
      · exact refshare_some _ _ _ _ _ _ h0 h1 hl h2 h3 h4 h5
    refine key.mono ?_
    rintro e w' ⟨v', k, rfl, hb, hk, hS', q1, q2⟩
    refine ⟨v', rfl, hb, _, hS', ?_, insK_sorted hs q1 q2⟩
    rw [Lat.shl_yes (t := ((a, b), y)) hpos]
    exact ((insK_perm _ _ _).trans (List.Perm.cons _ hp)).trans (List.perm_append_singleton _ _).symm
/-- The steps of a place in letters. -/
theorem loc_num {n : Nat} {A : Int} (hn : Lat.frq n) (h0 : 0 ≤ A) (h1 : A ≤ 840) :
    A.tdiv ((840 : Int) / (n : Int)) * ((840 : Int) / (n : Int)) = wd n (Lat.xa n A) ∧ (n : Int) * (A - wd n (Lat.xa n A)) = Lat.rs n A ∧ 0 ≤ wd n (Lat.xa n A) ∧ wd n (Lat.xa n A) ≤ A ∧ A.tdiv ((840 : Int) / (n : Int)) = (Lat.xa n A : Int) := by
  rw [Int.tdiv_eq_ediv_of_nonneg h0]
  rcases Lat.eight hn with rfl | rfl | rfl | rfl | rfl | rfl | rfl | rfl <;> (simp only [Lat.rs, Lat.xa, wd] at *; simp at *; omega)
/-- What the reference's Locate leaves. -/
def RLocP (W : World) (n f : Nat) (A B C : Int) (e : Ending) (w : World) : Prop := ∃ v, e = .returned (.tuple #[v, .int .i64 0]) ∧ Below W.heap.size W w ∧ SL w (Lat.loc n f A B C) v
theorem rloc_of {W w : World} {n f : Nat} {A B C : Int} {T : List ((Nat × Nat) × Int)} {v : Value} (hn : Lat.frq n) (hv : Ico.Vld f A B C) (hT : Lat.tri n A B C = T) (hb : Below W.heap.size W w) (h : RL w n f T v) : RLocP W n f A B C (.returned (.tuple #[v, .int .i64 0])) w := by
  obtain ⟨L, a, b, c⟩ := h
  rw [← hT] at b
  rw [Lat.loc_uniq hn hv b c] at a
  exact ⟨v, rfl, hb, a⟩
end Go.Proofs.YtejoabaanclcbaaGreat


