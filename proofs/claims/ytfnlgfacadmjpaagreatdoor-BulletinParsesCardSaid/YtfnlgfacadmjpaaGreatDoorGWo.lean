/- The reference's contract of words, at any text. -/
import Derived.Test.YtfnlgfacadmjpaaGreatDoorGNd
namespace Go.Proofs.YtfnlgfacadmjpaaGreatDoor
open Go.RowKit

theorem wd_space : ∀ l : List UInt8, Wrd.wd (l ++ [32]) = Wrd.wd l ++ [[]]
  | [] => by simp [Wrd.wd]
  | a :: l => by
    have ih := wd_space l
    rw [List.cons_append, Wrd.wd, Wrd.wd, ih]
    by_cases h : a = 32
    · rw [if_pos h, if_pos h]; rfl
    · rw [if_neg h, if_neg h]
      cases hw : Wrd.wd l with
      | nil => exact absurd hw (Wrd.wd_ne l)
      | cons x r => rfl
theorem wd_char {c : UInt8} (hc : c ≠ 32) : ∀ (l : List UInt8) (d : List (List UInt8)) (x : List UInt8), Wrd.wd l = d ++ [x] → Wrd.wd (l ++ [c]) = d ++ [x ++ [c]]
  | [], d, x, h => by
    cases d with
    | nil => simp [Wrd.wd] at h; subst h; simp [Wrd.wd, hc]
    | cons y r => simp [Wrd.wd] at h
  | a :: l, d, x, h => by
    rw [Wrd.wd] at h
    rw [List.cons_append, Wrd.wd]
    by_cases ha : a = 32
    · rw [if_pos ha] at h ⊢
      cases d with
      | nil => injection h with h1 h2; exact absurd h2 (Wrd.wd_ne l)
      | cons y r =>
        injection h with h1 h2
        rw [wd_char hc l r x h2, ← h1]; rfl
    · rw [if_neg ha] at h ⊢
      cases hw : Wrd.wd l with
      | nil => exact absurd hw (Wrd.wd_ne l)
      | cons y r =>
        rw [hw] at h
        cases d with
        | nil =>
          injection h with h1 h2
          subst h2
          rw [wd_char hc l [] y (by rw [hw]; rfl), ← h1]; rfl
        | cons z d' =>
          injection h with h1 h2
          rw [wd_char hc l (y :: d') x (by rw [hw, h2]; rfl), ← h1]; rfl
theorem wd_lens (l : List UInt8) : ∀ x ∈ Wrd.wd l, x.length ≤ l.length := fun x hx => by
  have h := (Wrd.splitK_wd l l.length).1 (wd_count l)
  exact (splitK_len l.length l).2 x (by rw [h]; exact hx)
attribute [local go_sem] S_add S_size Ck.S_one
set_option maxRecDepth 100000 in
set_option maxHeartbeats 2000000 in
theorem refWords_any (s : ByteArray) (w : World) (hs : s.size ≤ 100000) :
    Calls Tryz.prog 94 #[.string s] w fun e w' => ∃ v, e = .returned v ∧ Wl w (Wrd.wd s.data.toList) v w' := by
  obtain ⟨i0, hi, hz0, hz1, hz2⟩ := info_parts infoString
  go_enter Tryz.func94, Tryz.ntmps94
  go_wp2_with fail
  go_loopw [3, 4, 5] (fun v x t wr => ∃ (j : Nat) (d : List (List UInt8)) (c : List UInt8), j ≤ s.size ∧ t = .int .i64 j ∧ x = .string (S c) ∧ Wrd.wd (s.data.toList.take j) = d ++ [c] ∧ Wl w d v wr) (fun _ _ t _ => s.size - (intOf t).toNat)
  case atStart => exact ⟨0, [], [], Nat.zero_le _, rfl, rfl, rfl, Below.refl _ _, World.ownsRow_nil _ _ _ _⟩
  case round =>
    obtain ⟨j, d, c, hj, rfl, rfl, hwd, hW⟩ := hrel
    have HW := Lib.hid hW; clear hW
    have hcl : c.length ≤ 100000 := by
      have := wd_lens (s.data.toList.take j) c (by rw [hwd]; simp)
      rw [List.length_take] at this
      have h2 : s.data.toList.length = s.size := by simp
      omega
    have hdl : d.length ≤ 100001 := by
      have := wd_count (s.data.toList.take j)
      rw [hwd, List.length_append, List.length_take] at this
      simp only [List.length_cons, List.length_nil] at this
      have h2 : s.data.toList.length = s.size := by simp
      simp only [Array.length_toList] at this
      have h3 : s.data.size = s.size := rfl
      omega
    by_cases hlt : j < s.size
    · have hts := Pl.take_snoc s j hlt
      have j1 : (j : Int) < (s.size : Int) := by omega
      by_cases hc : s[j] = 32
      · have hq : ((s[j].toNat : Int) == 32) = true := by rw [hc]; rfl
        have HN := Lib.hid (show Wrd.wd (s.data.toList.take (j + 1)) = (d ++ [c]) ++ [[]] by rw [hts, hc, wd_space, hwd])
        have W7 := Lib.hid (HW.out.under ((Below.refl _ _).alloc (Nat.le_refl _) (.cells #[.string (S c)] 9)))
        clear hc hts hwd
        go_upto_region 7 with fail
        go_wp2_with (at_builtin; refine wpList_append_lies _ rfl (.tmp 16) (.tmp 18) 41 rfl w.heap.size 9 i0 _ 1 16 Tryz.underlying41 hi hz0 hz1 hz2 rfl (by decide) «u3» d.length _ rfl W7.out.own ⟨wr.heap.size, 0, none⟩ 1 1 [.string (S c)] rfl rfl (World.news_of_block (cs := #[.string (S c)]) (t := 9) (fr := (0, 0)) (heap_alloc_new wr _)) (by simp [Value.oneCell']) (by omega) (by unfold maxLen; omega) (by omega) W7.out.below.size (wr.heap.size + 1) (by simp) ?_; intro g' cap' w8 hown8 hgrow8 hat8 hlt8; have W8 := Lib.hid (W7.out.more (x := c) hown8 hgrow8); clear hown8 hgrow8 hat8 hlt8)
        go_roundw
        case rel => exact ⟨j + 1, d ++ [c], [], by omega, by go_num, rfl, HN.out, W8.out⟩
        case measure => simp [intOf]; omega
      · have hq : ((s[j].toNat : Int) == 32) = false := by
          rw [beq_eq_false_iff_ne]
          intro e
          exact hc (UInt8.toNat_inj.1 (by have e2 : (32 : UInt8).toNat = 32 := rfl; omega))
        have HN := Lib.hid (show Wrd.wd (s.data.toList.take (j + 1)) = d ++ [c ++ [s[j]]] by rw [hts]; exact wd_char hc _ _ _ hwd)
        have hx : s.extract j (j + 1) = S [s[j]] := by
          rw [← S_of (s.extract j (j + 1)), Pl.extract_list]
          congr 1
          rw [show j + 1 - j = 1 by omega, List.drop_eq_getElem_cons (by simpa using hlt)]
          simp
          rfl
        clear hc hts hwd
        go_wp2_with fail
        go_roundw
        case rel => exact ⟨j + 1, d, c ++ [s[j]], by omega, by go_num, by simp, HN.out, HW.out⟩
        case measure => simp [intOf]; omega
    · have hje : j = s.size := by omega
      have k1 : ¬ ((j : Int) < (s.size : Int)) := by omega
      subst hje
      have hall : s.data.toList.take s.size = s.data.toList := List.take_of_length_le (by simp)
      rw [hall] at hwd
      have HN := Lib.hid hwd
      have W7 := Lib.hid (HW.out.under ((Below.refl _ _).alloc (Nat.le_refl _) (.cells #[.string (S c)] 9)))
      clear hwd hall
      go_upto_region 10 with fail
      go_wp2_with (at_builtin; refine wpList_append_lies _ rfl (.tmp 27) (.tmp 29) 41 rfl w.heap.size 9 i0 _ 1 16 Tryz.underlying41 hi hz0 hz1 hz2 rfl (by decide) «u3» d.length _ rfl W7.out.own ⟨wr.heap.size, 0, none⟩ 1 1 [.string (S c)] rfl rfl (World.news_of_block (cs := #[.string (S c)]) (t := 9) (fr := (0, 0)) (heap_alloc_new wr _)) (by simp [Value.oneCell']) (by omega) (by unfold maxLen; omega) (by omega) W7.out.below.size (wr.heap.size + 1) (by simp) ?_; intro g' cap' w8 hown8 hgrow8 hat8 hlt8; have W8 := Lib.hid (W7.out.more (x := c) hown8 hgrow8); clear hown8 hgrow8 hat8 hlt8)
      go_ret
      exact ⟨_, rfl, by rw [HN.out]; exact W8.out⟩
end Go.Proofs.YtfnlgfacadmjpaaGreatDoor
