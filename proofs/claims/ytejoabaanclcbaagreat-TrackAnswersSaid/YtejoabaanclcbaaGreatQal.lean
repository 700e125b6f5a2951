/- Texts of this proof. -/
import Derived.Test.YtejoabaanclcbaaGreatRFind
import Derived.Test.YtejoabaanclcbaaGreatQai
import Derived.ArgAppend
import Derived.Deep.Upon
namespace Go.Proofs.YtejoabaanclcbaaGreat
open Go.RowKit

theorem wt_wd {n : Nat} (hn : Lat.frq n) (f a b c v : Nat) : Ico.wt f (wd n a) (wd n b) (wd n c) v = wd n (Lat.wn f a b c v) := by
  have h0 := (wd_step (a := 0) hn).2.2.1
  unfold Ico.wt Lat.wn
  split
  · rfl
  · split
    · rfl
    · split
      · rfl
      · exact h0.symm
/-- The node of a point, seen from its least face. -/
theorem same_idx {n f a b : Nat} (hn : Lat.frq n) (hf : f < 20) (hab : a + b ≤ n) :
    sameN n (Lat.idx n f a b) (Ico.nf f (wd n a) (wd n b) (wd n (n - a - b))) (nw f (wd n a) (wd n b) (wd n (n - a - b)) 0) (nw f (wd n a) (wd n b) (wd n (n - a - b)) 1) := by
  obtain ⟨-, hk, hp⟩ := Lat.ix_of hn hf hab
  obtain ⟨hf', hab', -⟩ := Lat.nd_in hn hk
  have hnr := Lat.nd_nrm hn hk
  generalize hkk : Lat.idx n f a b = k at *
  obtain ⟨⟨f', a', b'⟩, hnd⟩ : ∃ q, Lat.nd n k = q := ⟨_, rfl⟩
  rw [hnd] at hf' hab' hnr hp
  simp only at hf' hab' hnr
  have h9 : n ≤ 8 := hn.2
  have hw : ∀ v, Lat.wn f' a' b' (n - a' - b') v = Lat.wn f a b (n - a - b) v := Lat.pk_wn hf' hf (by omega) (by omega) (by omega) (by omega) (by omega) (by omega) hp
  have hwt : ∀ v, Ico.wt f (wd n a) (wd n b) (wd n (n - a - b)) v = Ico.wt f' (wd n a') (wd n b') (wd n (n - a' - b')) v := fun v => by rw [wt_wd hn, wt_wd hn, hw v]
  have hnf : Ico.nf f (wd n a) (wd n b) (wd n (n - a - b)) = f' := by
    rw [Ico.nf_same hwt, nf_nfB hn hf' hab', hnr]
  unfold sameN
  rw [hnd, hnf]
  refine ⟨rfl, ?_, ?_⟩
  · show wd n a' = nw f _ _ _ 0
    unfold nw
    rw [hnf, hwt, Ico.wt0]
  · show wd n b' = nw f _ _ _ 1
    unfold nw
    rw [hnf, hwt, Ico.wt1 hf']
theorem same_uniq {n k j f : Nat} {A B : Int} (hn : Lat.frq n) (hk : k < cn n) (hj : j < cn n) (h1 : sameN n k f A B) (h2 : sameN n j f A B) : k = j := by
  obtain ⟨e1, e2, e3⟩ := h1
  obtain ⟨d1, d2, d3⟩ := h2
  have a := (wd_lt (a := (Lat.nd n k).2.1) (b := (Lat.nd n j).2.1) hn).2.2 (by rw [e2, d2])
  have b := (wd_lt (a := (Lat.nd n k).2.2) (b := (Lat.nd n j).2.2) hn).2.2 (by rw [e3, d3])
  have hk' := (Lat.nd_in hn hk).2.2
  have hj' := (Lat.nd_in hn hj).2.2
  rw [← hk', ← hj', a, b, e1, d1]
theorem nf_vld {f : Nat} {A B C : Int} (h : Ico.Vld f A B C) : Ico.Vld (Ico.nf f A B C) (nw f A B C 0) (nw f A B C 1) (nw f A B C 2) :=
  Ico.vld_on h (Ico.nf_ok h).1 (Ico.nf_ok h).2
set_option maxRecDepth 100000 in
set_option maxHeartbeats 2000000 in
theorem at_any (n f a b g cap : Nat) (w : World) (hn : Lat.frq n) (hf : f < 20) (hab : a + b ≤ n) (hL : NdL w n g) :
    Calls Tryz.prog 67 #[.slice (some ⟨g, 0, none⟩) (cn n) cap, .int .i64 f, .int .i64 (wd n a), .int .i64 (wd n b)] w fun e w' => e = .returned (.int .i64 (Lat.idx n f a b : Nat)) ∧ Below w.heap.size w w' := by
  have hC : 840 - wd n a - wd n b = wd n (n - a - b) := (wd_le hn).2.2 hab
  have h1 := rs_wd hn (show a ≤ n by omega)
  have h2 := rs_wd hn (show b ≤ n by omega)
  have a0 := h1.2.2.1
  have a1 := h1.2.2.2
  have b0 := h2.2.2.1
  have b1 := h2.2.2.2
  have HV := Lib.hid (pt_vld hn hf hab)
  have HS := Lib.hid (same_idx hn hf hab)
  have HI := Lib.hid (Lat.ix_of hn hf hab).2.1
  have HL := Lib.hid hL; clear hL h1 h2
  have HN := Lib.hid hn; clear hn
  generalize wd n a = A at *
  generalize wd n b = B at *
  generalize wd n (n - a - b) = C at *
  go_enter Tryz.func67, Tryz.ntmps67
  go_wp2_with fail
  refine (refNormal_yes f A B C _ HV.out).mono ?_
  rintro e w1 ⟨rfl, hb1⟩
  have B1 := Lib.hid hb1
  have HL1 := Lib.hid ((HL.out.under hb1).under ((Below.refl _ _).alloc (Nat.le_refl _) (.cells #[.int .i64 (Ico.nf f A B C : Nat), .int .i64 (nw f A B C 0), .int .i64 (nw f A B C 1), .int .i64 (nw f A B C 2)] 32)))
  clear hb1
  go_wp2_with fail
  refine (reffind_any n (Ico.nf f A B C) g cap (nw f A B C 0) (nw f A B C 1) (nw f A B C 2) _ HN.out (nf_vld HV.out) HL1.out).mono ?_
  rintro e w2 ⟨hb2, r, rfl, hr⟩
  have hre : r = (Lat.idx n f a b : Nat) := by
    rcases hr with ⟨k, hk, rfl, hs⟩ | ⟨-, hno⟩
    · rw [same_uniq HN.out hk HI.out hs HS.out]
    · exact absurd HS.out (hno _ HI.out)
  subst hre
  have B2 := Lib.hid ((B1.out.alloc B1.out.size (.cells #[.int .i64 (Ico.nf f A B C : Nat), .int .i64 (nw f A B C 0), .int .i64 (nw f A B C 1), .int .i64 (nw f A B C 2)] 32)).trans (hb2.mono (by have := B1.out.size; simp; omega)))
  clear hr hb2
  go_wp2_with fail
  go_ret
  exact ⟨rfl, B2.out⟩
end Go.Proofs.YtejoabaanclcbaaGreat



namespace Go.Proofs.YtejoabaanclcbaaGreat
open Go.RowKit

theorem wd_xa {n : Nat} {A : Int} (hn : Lat.frq n) (h0 : 0 ≤ A) (h1 : A ≤ 840) (h : Lat.rs n A = 0) : A = wd n (Lat.xa n A) := by
  rcases Lat.eight hn with rfl | rfl | rfl | rfl | rfl | rfl | rfl | rfl <;> (simp only [Lat.rs, Lat.xa, wd] at *; simp at *; omega)
theorem vb_nat {F a b c : Int} (h : vb F a b c = true) : ∃ f : Nat, F = f ∧ Ico.Vld f a b c := by
  unfold vb at h
  have h' := of_decide_eq_true h
  exact ⟨F.toNat, by omega, by unfold Ico.Vld; omega⟩
/-- What Index answers for a frequency and a place. -/
def IndexR (W : World) (n f : Nat) (A B C : Int) (e : Ending) (w : World) : Prop := Below W.heap.size W w ∧
  ((Lat.rs n A = 0 ∧ Lat.rs n B = 0 ∧ Lat.rs n C = 0 ∧ e = .returned (.tuple #[.int .i64 (Lat.idx n f (Lat.xa n A) (Lat.xa n B) : Nat), .int .i64 0])) ∨
   (¬ (Lat.rs n A = 0 ∧ Lat.rs n B = 0 ∧ Lat.rs n C = 0) ∧ e = .returned (.tuple #[.int .i64 0, .int .i64 9])))
end Go.Proofs.YtejoabaanclcbaaGreat



namespace Go.Proofs.YtejoabaanclcbaaGreat
open Go.RowKit

/-- NOTHING IS APPENDED, FOR THE WALK. -/
theorem wpList_append_nothing {P : Program} (w : World) {ops : Array Oper} {rest : List Oper} {o : Oper} {a : Act} {Q : Exit → Act → World → Prop} (hgd : o.guard = none) (s x : Operand) (t : TypeId)
    (ho : o.op = .call { callee := .builtin .append, args := #[s, x], argTypes := #[t, t] }) (e : TypeId) (i : TypeInfo) (ht : P.underlying t = some (.slice e)) (hi : P.info? e = some i)
    (base : Option Addr) (n c : Nat) (hle : n ≤ c) (hs : a.eval s = .slice base n c) (v : Value) (hx : a.eval x = v) (src : Go.Src P i.size t v 0 [] w)
    (hK : wpList P ops Q rest (a.put o.dst (.slice base n c)) w) : wpList P ops Q (o :: rest) a w := by
  refine wpList_plain hgd fun K hK' => ?_
  have hrun := run_append_nothing (P := P) w t t o.type e i ht hi base n c hle v src
  unfold Oper.wp
  simp [execOp, ho, resolve, invoke, builtin, hs, hx, hrun, Result.andThen]
  exact hK' _ _ hK
/-- A list of shares as the reference holds it. -/
def SL (w : World) (L : List (Nat × Int)) (v : Value) : Prop := (L = [] ∧ v = .slice none 0 0) ∨ ∃ g cap, v = .slice (some ⟨g, 0, none⟩) L.length cap ∧ 0 < L.length ∧ L.length ≤ cap ∧ cap ≤ maxLen ∧ g < w.heap.size ∧ Shs w g L
theorem SL.under {w w' : World} {L : List (Nat × Int)} {v : Value} (h : SL w L v) (hb : Below w.heap.size w w') : SL w' L v := by
  rcases h with h | ⟨g, cap, h1, h2, h3, h4, h5, h6⟩
  · exact .inl h
  · exact .inr ⟨g, cap, h1, h2, h3, h4, Nat.lt_of_lt_of_le h5 hb.size, h6.under h5 hb⟩
/-- What share makes of a list. -/
def insK (k : Nat) (x : Nat × Int) (L : List (Nat × Int)) : List (Nat × Int) := L.take k ++ x :: L.drop k
theorem insK_len {k : Nat} {x : Nat × Int} {L : List (Nat × Int)} (h : k ≤ L.length) : (insK k x L).length = L.length + 1 := by
  unfold insK; simp; omega
theorem insK_perm (k : Nat) (x : Nat × Int) (L : List (Nat × Int)) : (insK k x L).Perm (x :: L) := by
  unfold insK
  exact List.perm_middle.trans (List.Perm.cons x (by rw [List.take_append_drop]))
theorem insK_sorted {k : Nat} {x : Nat × Int} {L : List (Nat × Int)} (hs : L.Pairwise (fun a b : Nat × Int => a.1 ≤ b.1)) (h1 : ∀ i (h : i < L.length), i < k → (L[i]).1 < x.1) (h2 : ∀ h : k < L.length, x.1 ≤ (L[k]).1) : (insK k x L).Pairwise (fun a b : Nat × Int => a.1 ≤ b.1) := by
  unfold insK
  rw [List.pairwise_append]
  have hlt : ∀ a ∈ L.take k, a.1 < x.1 := fun a ha => by
    obtain ⟨i, hi, rfl⟩ := List.mem_take_iff_getElem.1 ha
    exact h1 i (by omega) (by omega)
  have hge : ∀ b ∈ L.drop k, x.1 ≤ b.1 := fun b hb => by
    obtain ⟨i, hi, rfl⟩ := List.mem_drop_iff_getElem.1 hb
    have h3 := h2 (by omega)
    rcases Nat.eq_zero_or_pos i with rfl | hp
    · exact h3
    · exact Nat.le_trans h3 (List.pairwise_iff_getElem.1 hs k (k + i) (by omega) (by omega) (by omega))
  refine ⟨hs.sublist (List.take_sublist _ _), List.pairwise_cons.2 ⟨hge, hs.sublist (List.drop_sublist _ _)⟩, fun a ha b hb => ?_⟩
  rcases List.mem_cons.1 hb with rfl | hb
  · exact Nat.le_of_lt (hlt a ha)
  · exact Nat.le_trans (Nat.le_of_lt (hlt a ha)) (hge b hb)
theorem shc_len (L : List (Nat × Int)) : (shc L).length = L.length * 2 := by
  induction L with
  | nil => rfl
  | cons x L ih => simp [shc] at *; omega
theorem shc_app (L M : List (Nat × Int)) : shc (L ++ M) = shc L ++ shc M := by simp [shc]
theorem shc_one (L : List (Nat × Int)) : ∀ u ∈ shc L, u.oneCell' = true := by
  intro u hu
  unfold shc at hu
  obtain ⟨x, -, h⟩ := List.mem_flatMap.1 hu
  simp at h
  rcases h with rfl | rfl <;> rfl
theorem shs_cells {w : World} {g : Nat} {L : List (Nat × Int)} (h : Shs w g L) : ∀ j u, (shc L)[j]? = some u → w.cell? ⟨g, j, none⟩ = some u := by
  intro j u hu
  have hj := (List.getElem?_eq_some_iff.1 hu).1
  rw [shc_len] at hj
  have hi : j / 2 < L.length := by omega
  obtain ⟨a, b⟩ := h _ hi
  obtain ⟨c, d⟩ := shc_at L _ hi
  rcases Nat.mod_two_eq_zero_or_one j with e | e
  · have e' : j / 2 * 2 = j := by omega
    rw [e'] at a c
    rw [a, ← c, hu]
  · have e' : j / 2 * 2 + 1 = j := by omega
    rw [e'] at b d
    rw [b, ← d, hu]
theorem shs_cut {w : World} {g k : Nat} {L : List (Nat × Int)} (h : Shs w g L) : ∀ j u, (shc (L.drop k))[j]? = some u → w.cell? ⟨g, k * 2 + j, none⟩ = some u := by
  intro j u hu
  by_cases hk : k ≤ L.length
  · refine shs_cells h _ _ ?_
    have e : shc L = shc (L.take k) ++ shc (L.drop k) := by rw [← shc_app, List.take_append_drop]
    rw [e, List.getElem?_append_right (by rw [shc_len]; simp; omega)]
    rw [shc_len, List.length_take, Nat.min_eq_left hk]
    rw [show k * 2 + j - k * 2 = j by omega]
    exact hu
  · rw [List.drop_eq_nil_of_le (by omega)] at hu
    simp [shc] at hu
theorem shs_beg {w : World} {g k : Nat} {L : List (Nat × Int)} (h : Shs w g L) : ∀ j u, (shc (L.take k))[j]? = some u → w.cell? ⟨g, j, none⟩ = some u := by
  intro j u hu
  refine shs_cells h _ _ ?_
  have e : shc L = shc (L.take k) ++ shc (L.drop k) := by rw [← shc_app, List.take_append_drop]
  rw [e, List.getElem?_append_left (List.getElem?_eq_some_iff.1 hu).1]
  exact hu
theorem sl_of_own {w : World} {base m : Nat} {L : List (Nat × Int)} {v : Value} (h : w.ownsRow base 84 2 v m (shc L)) (hm : m = L.length) (hp : 0 < m) : SL w L v := by
  have h' := h
  rcases h.2 with ⟨_, h0⟩ | ⟨g, cap, cur, rfl, _, hh, hle, hmax, _, _⟩
  · omega
  · exact .inr ⟨g, cap, by rw [hm], by omega, by omega, hmax, (Array.getElem?_eq_some_iff.1 hh).1, shs_of_own h' hm⟩
theorem below_new {w w' : World} (hg : w.grownBy w' none) : Below w.heap.size w w' := (Below.refl _ w).grown hg (Nat.le_refl _) (by simp)
/-- What share leaves. -/
def RShareP (W : World) (L : List (Nat × Int)) (x : Nat × Int) (e : Ending) (w : World) : Prop := ∃ v k, e = .returned v ∧ Below W.heap.size W w ∧ k ≤ L.length ∧ SL w (insK k x L) v ∧ (∀ i (h : i < L.length), i < k → (L[i]).1 < x.1) ∧ (∀ h : k < L.length, x.1 ≤ (L[k]).1)
set_option maxRecDepth 100000 in
set_option maxHeartbeats 2000000 in
theorem refshare_zero (v : Value) (x : Int) (w : World) :
    Calls Tryz.prog 66 #[v, .int .i64 x, .int .i64 0] w fun e w' => e = .returned v ∧ w' = w := by
  go_enter Tryz.func66, Tryz.ntmps66
  go_wp2_with fail
  go_ret
  exact ⟨rfl, rfl⟩
set_option maxRecDepth 100000 in
set_option maxHeartbeats 2000000 in
theorem refshare_nil (x : Nat) (y : Int) (w : World) (hy : y ≠ 0) :
    Calls Tryz.prog 66 #[.slice none 0 0, .int .i64 x, .int .i64 y] w (RShareP w [] (x, y)) := by
  obtain ⟨i0, hi, hz0, hz1, hz2⟩ := info_parts infoShare
  have HY := Lib.hid hy
  go_enter Tryz.func66, Tryz.ntmps66
  go_wp2_with fail
  go_loopw [7] (fun t wr => t = .int .i64 0 ∧ wr = w) (fun _ _ => 0)
  case atStart => exact ⟨rfl, rfl⟩
  case round =>
    obtain ⟨rfl, rfl⟩ := hrel
    go_wp2_with (at_builtin; first | (refine wpList_append_nothing _ rfl (.tmp 30) (.tmp 33) 80 rfl 84 i0 Tryz.underlying80 hi _ 1 1 (Nat.le_refl _) rfl _ rfl (Go.Src.ofNil _ Tryz.underlying80 0) ?_) | go_loud (refine wpList_append_grows _ rfl (.tmp 38) (.tmp 39) 80 rfl 84 i0 _ 2 16 Tryz.underlying80 hi hz0 hz1 hz2 rfl (by decide) none 0 0 [] rfl (fun _ => ⟨rfl, rfl⟩) rfl (fun b h => by cases h) ⟨wr.heap.size, 0, none⟩ 1 1 (shc [(x, y)]) rfl rfl (World.news_of_block (cs := #[.int .i64 (x : Int), .int .i64 y]) (t := 84) (fr := (0, 0)) (heap_alloc_new wr _)) (shc_one _) (by omega) (by decide) (by decide) ?_; intro v' w' hown hgr; have HW := Lib.hid hown; have HG := Lib.hid hgr; clear hown hgr))
    go_ret
    exact ⟨v', 0, rfl, ((Below.refl _ _).alloc (Nat.le_refl _) _).trans ((below_new HG.out).mono (by simp)), Nat.le_refl _, sl_of_own (L := [(x, y)]) HW.out rfl (by omega), fun i h => by simp at h, fun h => by simp at h⟩
end Go.Proofs.YtejoabaanclcbaaGreat



namespace Go.Proofs.YtejoabaanclcbaaGreat
open Go.RowKit

theorem bel_alloc {w w' : World} {o : Obj} (h : Below (w.alloc o).heap.size (w.alloc o) w') : Below w.heap.size w w' :=
  ((Below.refl w.heap.size w).alloc (Nat.le_refl _) o).trans (h.mono (by simp))
set_option maxRecDepth 100000 in
set_option maxHeartbeats 2000000 in
theorem refshare_some (g cap : Nat) (L : List (Nat × Int)) (x : Nat) (y : Int) (w : World) (hy : y ≠ 0) (hp : 0 < L.length) (hl : L.length ≤ 2) (hc : L.length ≤ cap) (hm : cap ≤ maxLen) (hg : g < w.heap.size) (hs : Shs w g L) :
    Calls Tryz.prog 66 #[.slice (some ⟨g, 0, none⟩) L.length cap, .int .i64 x, .int .i64 y] w (RShareP w L (x, y)) := by
  obtain ⟨i0, hi, hz0, hz1, hz2⟩ := info_parts infoShare
  have HS := Lib.hid hs; clear hs
  have HM := Lib.hid hm; clear hm
  go_enter Tryz.func66, Tryz.ntmps66
  go_wp2_with fail
  go_loopw [7] (fun t wr => ∃ k : Nat, k ≤ L.length ∧ t = .int .i64 k ∧ (∀ i (h : i < L.length), i < k → (L[i]).1 < x) ∧ wr = w) (fun t _ => L.length - (intOf t).toNat)
  case atStart => exact ⟨0, by omega, rfl, fun i h h' => by omega, rfl⟩
  case round =>
    obtain ⟨k, hk, rfl, ht, hw⟩ := hrel
    subst hw
    have HT := Lib.hid ht; clear ht
    have k0 : (0 : Int) ≤ (k : Int) := by omega
    have KL := Lib.hid (show k ≤ L.length ∧ L.length ≤ 2 from ⟨hk, hl⟩)
    by_cases hlt : k < L.length
    · obtain ⟨c0, c1⟩ := HS.out k hlt
      have k1 : (k : Int) < (L.length : Int) := by omega
      have x1 : IntKind.i64.wrap (k : Int) = (k : Int) := IntWalk.i64_in _ (by omega)
      by_cases h1 : (L[k]).1 < x
      · have hs' : Hid (∀ i (h : i < L.length), i < k + 1 → (L[i]).1 < x) := Lib.hid (fun i h h' => by
          rcases Nat.lt_or_ge i k with q | q
          · exact HT.out i h q
          · obtain rfl : i = k := by omega
            exact h1)
        have h1' : (((L[k]).1 : Nat) : Int) < (x : Int) := by omega
        generalize L[k] = z at *
        clear h1
        go_wp2_with fail
        go_roundw
        case rel => exact ⟨k + 1, by omega, by go_num, hs'.out, by trivial⟩
        case measure => simp [intOf]; omega
      · have hs' : Hid (∀ h : k < L.length, x ≤ (L[k]).1) := Lib.hid (fun h => by omega)
        have h1' : ¬ (((L[k]).1 : Nat) : Int) < (x : Int) := by omega
        generalize L[k] = z at *
        clear h1
        have k3 : ¬ cap = k := by omega
        have hlk : (L.drop k).length = L.length - k := List.length_drop
        have HK := Lib.hid (show k < L.length ∧ L.length ≤ 2 ∧ (L.drop k).length = L.length - k from ⟨hlt, hl, hlk⟩)
        clear hlk
        go_wp2_with (at_builtin; first
          | (refine wpList_append_grows _ rfl (.tmp 30) (.tmp 33) 80 rfl 84 i0 _ 2 16 Tryz.underlying80 hi hz0 hz1 hz2 rfl (by decide) (some ⟨wr.heap.size, 0, none⟩) 1 1 (shc [(x, y)]) rfl (fun h => by cases h) rfl (fun b h => by cases h; exact (World.news_of_block (cs := #[.int .i64 (x : Int), .int .i64 y]) (t := 84) (fr := (0, 0)) (heap_alloc_new wr _))) ⟨g, k * 2, none⟩ (L.length - k) (cap - k) (shc (L.drop k)) rfl (by rw [shc_len, HK.out.2.2]) (fun j u hu => by rw [Addr.add_lit, ((Below.refl wr.heap.size wr).alloc (Nat.le_refl _) _).cell (p := ⟨g, k * 2 + j, none⟩) hg]; exact shs_cut HS.out j u hu) (shc_one _) (by have := HK.out; omega) (by have := HK.out; unfold maxLen; omega) (by have := HK.out; omega) ?_
             intro v1 w1 hown1 hgr1
             rw [← shc_app] at hown1
             have B1 := Lib.hid (bel_alloc (below_new hgr1))
             obtain ⟨g1, cap1, rfl, p1, p2, p3, p4, p5⟩ : ∃ g1 cap1, v1 = .slice (some ⟨g1, 0, none⟩) (1 + (L.length - k)) cap1 ∧ 1 + (L.length - k) ≤ cap1 ∧ cap1 ≤ maxLen ∧ g1 < w1.heap.size ∧ Shs w1 g1 ([(x, y)] ++ L.drop k) ∧ Shs w1 g L := by
               rcases sl_of_own hown1 (by simp; omega) (by omega) with ⟨h, -⟩ | ⟨g1, cap1, q1, q2, q3, q4, q5, q6⟩
               · cases h
               · exact ⟨g1, cap1, by rw [q1]; simp; omega, by simp at q3; omega, q4, q5, q6, HS.out.under hg B1.out⟩
             have P := Lib.hid (show 1 + (L.length - k) ≤ cap1 ∧ cap1 ≤ maxLen ∧ g1 < w1.heap.size ∧ Shs w1 g1 ([(x, y)] ++ L.drop k) ∧ Shs w1 g L from ⟨p1, p2, p3, p4, p5⟩)
             clear hown1 hgr1 p1 p2 p3 p4 p5)
          | (refine wpList_append_grows _ rfl (.tmp 38) (.tmp 39) 80 rfl 84 i0 _ 2 16 Tryz.underlying80 hi hz0 hz1 hz2 rfl (by decide) (some ⟨g, 0, none⟩) k k (shc (L.take k)) rfl (fun h => by cases h) (by rw [shc_len, List.length_take, Nat.min_eq_left KL.out.1]) (fun b h j u hu => by cases h; rw [Addr.add_lit, Nat.zero_add]; exact shs_beg P.out.2.2.2.2 j u hu) ⟨g1, 0, none⟩ (1 + (L.length - k)) cap1 (shc ([(x, y)] ++ L.drop k)) rfl (by rw [shc_len]; simp; omega) (fun j u hu => by rw [Addr.add_lit, Nat.zero_add]; exact shs_cells P.out.2.2.2.1 j u hu) (shc_one _) (by omega) (by have := KL.out; unfold maxLen; omega) (by have := KL.out; omega) ?_
             intro v2 w2 hown2 hgr2
             rw [← shc_app] at hown2
             have HW2 := Lib.hid hown2
             have B2 := Lib.hid (B1.out.trans ((below_new hgr2).mono B1.out.size))
             clear hown2 hgr2))
        go_ret
        exact ⟨v2, k, rfl, B2.out, KL.out.1, sl_of_own (L := insK k (x, y) L) HW2.out (by rw [insK_len KL.out.1]; have := KL.out; omega) (by omega), HT.out, hs'.out⟩
    · have hke : k = L.length := by omega
      subst hke
      clear hlt KL
      by_cases hck : cap = L.length
      · subst hck
        go_wp2_with (at_builtin; first
          | (refine wpList_append_nothing _ rfl (.tmp 30) (.tmp 33) 80 rfl 84 i0 Tryz.underlying80 hi _ 1 1 (Nat.le_refl _) rfl _ rfl (Go.Src.ofSlice _ Tryz.underlying80 _ 0 _ [] (by simp) (fun j u h => by simp at h) (fun u h => by cases h)) ?_)
          | (refine wpList_append_grows _ rfl (.tmp 38) (.tmp 39) 80 rfl 84 i0 _ 2 16 Tryz.underlying80 hi hz0 hz1 hz2 rfl (by decide) (some ⟨g, 0, none⟩) L.length L.length (shc (L.take L.length)) rfl (fun h => by cases h) (by rw [shc_len, List.length_take, Nat.min_self]) (fun b h j u hu => by cases h; rw [Addr.add_lit, Nat.zero_add, ((Below.refl wr.heap.size wr).alloc (Nat.le_refl _) _).cell (p := ⟨g, j, none⟩) hg]; exact shs_beg HS.out j u hu) ⟨wr.heap.size, 0, none⟩ 1 1 (shc ([(x, y)] ++ L.drop L.length)) rfl (by rw [shc_len]; simp) (by rw [List.drop_length]; exact World.news_of_block (cs := #[.int .i64 (x : Int), .int .i64 y]) (t := 84) (fr := (0, 0)) (heap_alloc_new wr _)) (shc_one _) (by omega) (by unfold maxLen; omega) (by omega) ?_
             intro v2 w2 hown2 hgr2
             rw [← shc_app] at hown2
             have HW2 := Lib.hid hown2
             have B2 := Lib.hid (bel_alloc (below_new hgr2))
             clear hown2 hgr2))
        go_ret
        exact ⟨v2, L.length, rfl, B2.out, Nat.le_refl _, sl_of_own (L := insK L.length (x, y) L) HW2.out (by rw [insK_len (Nat.le_refl _)]) (by omega), HT.out, fun h => absurd h (Nat.lt_irrefl _)⟩
      · have k3 : ¬ cap = L.length := hck
        clear hck
        go_wp2_with (at_builtin; first
          | (refine wpList_append_nothing _ rfl (.tmp 30) (.tmp 33) 80 rfl 84 i0 Tryz.underlying80 hi _ 1 1 (Nat.le_refl _) rfl _ rfl (Go.Src.ofSlice _ Tryz.underlying80 _ 0 _ [] (by simp) (fun j u h => by simp at h) (fun u h => by cases h)) ?_)
          | (refine wpList_append_grows _ rfl (.tmp 38) (.tmp 39) 80 rfl 84 i0 _ 2 16 Tryz.underlying80 hi hz0 hz1 hz2 rfl (by decide) (some ⟨g, 0, none⟩) L.length L.length (shc (L.take L.length)) rfl (fun h => by cases h) (by rw [shc_len, List.length_take, Nat.min_self]) (fun b h j u hu => by cases h; rw [Addr.add_lit, Nat.zero_add, ((Below.refl wr.heap.size wr).alloc (Nat.le_refl _) _).cell (p := ⟨g, j, none⟩) hg]; exact shs_beg HS.out j u hu) ⟨wr.heap.size, 0, none⟩ 1 1 (shc ([(x, y)] ++ L.drop L.length)) rfl (by rw [shc_len]; simp) (by rw [List.drop_length]; exact World.news_of_block (cs := #[.int .i64 (x : Int), .int .i64 y]) (t := 84) (fr := (0, 0)) (heap_alloc_new wr _)) (shc_one _) (by omega) (by unfold maxLen; omega) (by omega) ?_
             intro v2 w2 hown2 hgr2
             rw [← shc_app] at hown2
             have HW2 := Lib.hid hown2
             have B2 := Lib.hid (bel_alloc (below_new hgr2))
             clear hown2 hgr2))
        go_ret
        exact ⟨v2, L.length, rfl, B2.out, Nat.le_refl _, sl_of_own (L := insK L.length (x, y) L) HW2.out (by rw [insK_len (Nat.le_refl _)]) (by omega), HT.out, fun h => absurd h (Nat.lt_irrefl _)⟩
end Go.Proofs.YtejoabaanclcbaaGreat



namespace Go.Proofs.YtejoabaanclcbaaGreat
open Go.RowKit

/-- The shares of the points so far, as the reference holds them. -/
def RL (w : World) (n f : Nat) (T : List ((Nat × Nat) × Int)) (v : Value) : Prop := ∃ L, SL w L v ∧ L.Perm (Lat.shl n f T) ∧ L.Pairwise (fun a b : Nat × Int => a.1 ≤ b.1)
theorem RL.start (w : World) (n f : Nat) : RL w n f [] (.slice none 0 0) := ⟨[], .inl ⟨rfl, rfl⟩, List.Perm.nil, List.Pairwise.nil⟩
theorem RL.under {w w' : World} {n f : Nat} {T : List ((Nat × Nat) × Int)} {v : Value} (h : RL w n f T v) (hb : Below w.heap.size w w') : RL w' n f T v := by
  obtain ⟨L, a, b⟩ := h
  exact ⟨L, a.under hb, b⟩
/-- What one more call of share leaves. -/
def RLP (W : World) (n f : Nat) (T : List ((Nat × Nat) × Int)) (e : Ending) (w : World) : Prop := ∃ v, e = .returned v ∧ Below W.heap.size W w ∧ RL w n f T v
theorem refshare_step (n f a b : Nat) (T : List ((Nat × Nat) × Int)) (v : Value) (y : Int) (w : World) (h : RL w n f T v) (hT : T.length ≤ 2) (hy : 0 ≤ y) :
    Calls Tryz.prog 66 #[v, .int .i64 (Lat.idx n f a b : Nat), .int .i64 y] w (RLP w n f (T ++ [((a, b), y)])) := by
  obtain ⟨L, hS, hp, hs⟩ := h
  have hl : L.length ≤ 2 := by
    rw [hp.length_eq]
    exact Nat.le_trans (List.length_filterMap_le _ _) hT
  by_cases h0 : y = 0
  · subst h0
    refine (refshare_zero _ _ _).mono ?_
    rintro e w' ⟨rfl, rfl⟩
    exact ⟨v, rfl, Below.refl _ _, L, hS, by rw [Lat.shl_no (t := ((a, b), (0 : Int))) (by simp)]; exact hp, hs⟩
  · have hpos : 0 < y := by omega
    have key : Calls Tryz.prog 66 #[v, .int .i64 (Lat.idx n f a b : Nat), .int .i64 y] w (RShareP w L (Lat.idx n f a b, y)) := by
      rcases hS with ⟨rfl, rfl⟩ | ⟨g, cap, rfl, h1, h2, h3, h4, h5⟩
      · exact refshare_nil _ _ _ h0
      · exact refshare_some _ _ _ _ _ _ h0 h1 hl h2 h3 h4 h5
    refine key.mono ?_
    rintro e w' ⟨v', k, rfl, hb, hk, hS', q1, q2⟩
    refine ⟨v', rfl, hb, _, hS', ?_, insK_sorted hs q1 q2⟩
    rw [Lat.shl_yes (t := ((a, b), y)) hpos]
    exact ((insK_perm _ _ _).trans (List.Perm.cons _ hp)).trans (List.perm_append_singleton _ _).symm
/-- The steps of a place in letters. -/
theorem loc_num {n : Nat} {A : Int} (hn : Lat.frq n) (h0 : 0 ≤ A) (h1 : A ≤ 840) :
    A.tdiv ((840 : Int) / (n : Int)) * ((840 : Int) / (n : Int)) = wd n (Lat.xa n A) ∧ (n : Int) * (A - wd n (Lat.xa n A)) = Lat.rs n A ∧ 0 ≤ wd n (Lat.xa n A) ∧ wd n (Lat.xa n A) ≤ A ∧ A.tdiv ((840 : Int) / (n : Int)) = (Lat.xa n A : Int) := by
  rw [Int.tdiv_eq_ediv_of_nonneg h0]
  rcases Lat.eight hn with rfl | rfl | rfl | rfl | rfl | rfl | rfl | rfl <;> (simp only [Lat.rs, Lat.xa, wd] at *; simp at *; omega)
/-- What the reference's Locate leaves. -/
def RLocP (W : World) (n f : Nat) (A B C : Int) (e : Ending) (w : World) : Prop := ∃ v, e = .returned (.tuple #[v, .int .i64 0]) ∧ Below W.heap.size W w ∧ SL w (Lat.loc n f A B C) v
theorem rloc_of {W w : World} {n f : Nat} {A B C : Int} {T : List ((Nat × Nat) × Int)} {v : Value} (hn : Lat.frq n) (hv : Ico.Vld f A B C) (hT : Lat.tri n A B C = T) (hb : Below W.heap.size W w) (h : RL w n f T v) : RLocP W n f A B C (.returned (.tuple #[v, .int .i64 0])) w := by
  obtain ⟨L, a, b, c⟩ := h
  rw [← hT] at b
  rw [Lat.loc_uniq hn hv b c] at a
  exact ⟨v, rfl, hb, a⟩
end Go.Proofs.YtejoabaanclcbaaGreat


