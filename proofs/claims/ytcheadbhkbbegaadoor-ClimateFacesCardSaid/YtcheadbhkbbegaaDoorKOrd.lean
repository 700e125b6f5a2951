/- The contract of the reader's Order: a permutation of the first numbers. -/
import Derived.Test.YtcheadbhkbbegaaDoorQar
import Derived.Test.YtcheadbhkbbegaaDoorCmN
namespace Go.Proofs.YtcheadbhkbbegaaDoor
open Go.RowKit

theorem wpList_append_nothing {P : Program} (w : World) {ops : Array Oper} {rest : List Oper} {o : Oper} {a : Act} {Q : Exit → Act → World → Prop} (hgd : o.guard = none) (s x : Operand) (t : TypeId)
    (ho : o.op = .call { callee := .builtin .append, args := #[s, x], argTypes := #[t, t] }) (e : TypeId) (i : TypeInfo) (ht : P.underlying t = some (.slice e)) (hi : P.info? e = some i)
    (base : Option Addr) (n c : Nat) (hle : n ≤ c) (hs : a.eval s = .slice base n c) (v : Value) (hx : a.eval x = v) (src : Go.Src P i.size t v 0 [] w)
    (hK : wpList P ops Q rest (a.put o.dst (.slice base n c)) w) : wpList P ops Q (o :: rest) a w := by
  refine wpList_plain hgd fun K hK' => ?_
  have hrun := run_append_nothing (P := P) w t t o.type e i ht hi base n c hle v src
  unfold Oper.wp
  simp [execOp, ho, resolve, invoke, builtin, hs, hx, hrun, Result.andThen]
  exact hK' _ _ hK
theorem below_new {w w' : World} (hg : w.grownBy w' none) : Below w.heap.size w w' := (Below.refl _ w).grown hg (Nat.le_refl _) (by simp)
theorem nmc_one (C : List Int) : ∀ u ∈ nmc C, u.oneCell' = true := by
  intro u hu
  obtain ⟨x, -, rfl⟩ := List.mem_map.1 hu
  rfl
/-- The list with x put in at k. -/
def insK (k : Nat) (x : Int) (P : List Int) : List Int := P.take k ++ x :: P.drop k
theorem insK_len {k : Nat} {x : Int} {P : List Int} (h : k ≤ P.length) : (insK k x P).length = P.length + 1 := by unfold insK; simp; omega
theorem insK_perm (k : Nat) (x : Int) (P : List Int) : (insK k x P).Perm (x :: P) := by
  unfold insK
  exact List.perm_middle.trans (List.Perm.cons x (by rw [List.take_append_drop]))
/-- The first n numbers. -/
def upto (n : Nat) : List Int := (List.range n).map fun (j : Nat) => (j : Int)
theorem upto_succ (n : Nat) : upto (n + 1) = upto n ++ [(n : Int)] := by unfold upto; rw [List.range_succ, List.map_append]; rfl
theorem upto_len (n : Nat) : (upto n).length = n := by unfold upto; simp
theorem insK_upto {k n : Nat} {P : List Int} (h : P.Perm (upto n)) : (insK k (n : Int) P).Perm (upto (n + 1)) := by
  rw [upto_succ]
  exact (insK_perm k n P).trans ((List.Perm.cons _ h).trans (List.perm_append_singleton _ _).symm)
theorem nmc_len (C : List Int) : (nmc C).length = C.length * 1 := by unfold nmc; rw [List.length_map]; omega
theorem nmc_app (A B : List Int) : nmc (A ++ B) = nmc A ++ nmc B := List.map_append
theorem nmc_cells {w : World} {base g n cap : Nat} {P : List Int} (h : w.ownsRow base 3 1 (.slice (some ⟨g, 0, none⟩) n cap) n (nmc P)) (hn : n = P.length) : ∀ j u, (nmc P)[j]? = some u → w.cell? ⟨g, j, none⟩ = some u := by
  intro j u hu
  have hj := (List.getElem?_eq_some_iff.1 hu).1
  rw [nmc_len] at hj
  rw [h.cellAt j (by omega)]
  exact hu
theorem nmc_cut {P : List Int} (k : Nat) : ∀ (j : Nat) (u : Value), (nmc (P.drop k))[j]? = some u → (nmc P)[k + j]? = some u := by
  intro j u hu
  unfold nmc at hu ⊢
  rw [List.getElem?_map, List.getElem?_drop] at hu
  rw [List.getElem?_map]
  exact hu
theorem nmc_beg {P : List Int} (k : Nat) : ∀ (j : Nat) (u : Value), (nmc (P.take k))[j]? = some u → (nmc P)[j]? = some u := by
  intro j u hu
  have hj := (List.getElem?_eq_some_iff.1 hu).1
  rw [nmc_len, List.length_take] at hj
  unfold nmc at hu ⊢
  rw [List.getElem?_map, List.getElem?_take, if_pos (by omega)] at hu
  rw [List.getElem?_map]
  exact hu
/-- What is known while the order grows. -/
structure Orr (W : World) (b : Nat) (w0 : World) (P : List Int) (u : Value) (w : World) : Prop where
  src : Src W b w
  gro : w0.grownBy w (some b)
  own : ∃ base, w0.heap.size ≤ base ∧ w.ownsRow base 3 1 u P.length (nmc P)
  nz : P = [] → u = .slice none 0 0
theorem Orr.step {W w0 w w' : World} {b : Nat} {P : List Int} {u : Value} (h : Orr W b w0 P u w) (hs : Src W b w') (hg : w.grownBy w' (some b)) : Orr W b w0 P u w' := by
  obtain ⟨cs, hr⟩ := El.src_row h.src
  obtain ⟨base, h1, h2⟩ := h.own
  exact ⟨hs, grown_trans h.gro hg, ⟨base, h1, h2.kept hg (.inr (fun e => El.own_ne h2 hr (by decide) e.symm))⟩, h.nz⟩
theorem Orr.next {W w0 w w' : World} {b base : Nat} {P Q : List Int} {u v : Value} {m : Nat} (h : Orr W b w0 P u w) (hb : Below w.heap.size w w') (ho : w'.ownsRow base 3 1 v m (nmc Q)) (hm : m = Q.length) (hbase : w.heap.size ≤ base) (hq : 0 < m) : Orr W b w0 Q v w' :=
  ⟨h.src.under hb, grown_trans h.gro (grown_below hb), ⟨base, Nat.le_trans h.gro.size hbase, by rw [← hm]; exact ho⟩, fun e => by rw [e] at hm; simp at hm; omega⟩
theorem own_some {w : World} {base n : Nat} {v : Value} {C : List Int} (h : w.ownsRow base 3 1 v n (nmc C)) (hn : 0 < n) : ∃ g cap, v = .slice (some ⟨g, 0, none⟩) n cap ∧ g < w.heap.size ∧ (∀ (j : Nat) (u : Value), (nmc C)[j]? = some u → w.cell? ⟨g, j, none⟩ = some u) ∧ cap ≤ maxLen := by
  have h' := h
  rcases h.2 with ⟨_, h0⟩ | ⟨g, cap, cur, rfl, _, hh, hle, hmax, _, _⟩
  · omega
  · refine ⟨g, cap, rfl, (Array.getElem?_eq_some_iff.1 hh).1, fun j u hu => ?_, hmax⟩
    have hj := (List.getElem?_eq_some_iff.1 hu).1
    have := h.1
    rw [h'.cellAt j (by omega)]
    exact hu
/-- What Order leaves. -/
def Ordd (W : World) (b : Nat) (w : World) (n : Nat) (e : Ending) (w' : World) : Prop := ∃ u P, e = .returned u ∧ P.Perm (upto n) ∧ Orr W b w P u w'
set_option maxRecDepth 100000 in
set_option maxHeartbeats 4000000 in
theorem ordr_any (W : World) (b : Nat) (w : World) (n : Nat) (h : Src W b w) (hn : n ≤ 1000) :
    Calls Tryd.prog 30 #[.pointer (some ⟨b, 0, none⟩), .int .i64 n] w (Ordd W b w n) := by
  obtain ⟨i0, hi, hz0, hz1, hz2⟩ := info_parts infoIntC
  go_enter Tryd.func30, Tryd.ntmps30
  go_wp2_with fail
  go_loopw [5, 6] (fun u t wr => ∃ (i : Nat) (P : List Int), i ≤ n ∧ t = .int .i64 i ∧ P.Perm (upto i) ∧ Orr W b w P u wr) (fun _ t _ => n - (intOf t).toNat)
  case atStart => exact ⟨0, [], Nat.zero_le _, rfl, List.Perm.refl _, h, grown_refl _ _, ⟨w.heap.size, Nat.le_refl _, World.ownsRow_nil _ _ _ _⟩, fun _ => rfl⟩
  case round =>
    clear h
    obtain ⟨i, P, hin, rfl, hp, hS⟩ := hrel
    have HPl : P.length = i := by rw [hp.length_eq, upto_len]
    have HP := Lib.hid hp; clear hp
    by_cases hlt : i < n
    · have hi1 : (i : Int) < (n : Int) := by omega
      obtain ⟨base, hb1, hown⟩ := hS.own
      rcases hown.2 with ⟨rfl, h0⟩ | ⟨g, cap, cur, rfl, hge, hh, hle, hmax, hsz, htk⟩
      · have hP0 : P = [] := List.eq_nil_of_length_eq_zero h0
        subst hP0
        have hi0 : i = 0 := by simpa using HPl.symm
        subst hi0
        clear hown hb1 h0 HPl
        go_wp2_with fail
        refine (n_any W b _ _ hS.src (by omega) (by omega)).mono ?_
        rintro e w1 ⟨x, ⟨x1, x2⟩, rfl, s1, g1⟩
        have S1 := Lib.hid (hS.step s1 g1)
        clear hS s1 g1
        obtain rfl : x = 0 := by omega
        clear x1 x2
        go_wp2_with (at_builtin; first | (refine wpList_append_nothing _ rfl (.tmp 20) (.tmp 23) 28 rfl 3 i0 Tryd.underlying28 hi _ 1 1 (Nat.le_refl _) rfl _ rfl (Go.Src.ofNil _ Tryd.underlying28 0) ?_) | go_loud (refine wpList_append_grows _ rfl (.tmp 28) (.tmp 29) 28 rfl 3 i0 _ 1 8 Tryd.underlying28 hi hz0 hz1 hz2 rfl (by decide) none 0 0 [] rfl (fun _ => ⟨rfl, rfl⟩) rfl (fun b h => by cases h) ⟨w1.heap.size, 0, none⟩ 1 1 (nmc [0]) rfl rfl (World.news_of_block (cs := #[.int .i64 0]) (t := 3) (fr := (0, 0)) (heap_alloc_new w1 _)) (nmc_one _) (by omega) (by decide) (by decide) ?_; intro v' w' hown hgr; have HW := Lib.hid hown; have HG := Lib.hid hgr; clear hown hgr))
        go_roundw
        case rel => exact ⟨1, [0], by omega, rfl, List.Perm.refl _, S1.out.next (((Below.refl _ _).alloc (Nat.le_refl _) _).trans ((below_new HG.out).mono (by simp))) HW.out rfl (by simp) (by omega)⟩
        case measure => simp [intOf]; omega
      · subst HPl
        have hPp : 0 < P.length := by
          rcases Nat.eq_zero_or_pos P.length with h0 | h0
          · exfalso
            have := hS.nz (List.eq_nil_of_length_eq_zero h0)
            cases this
          · exact h0
        clear hown hb1 hge hh hsz htk
        have hiP : (P.length : Int) + 1 ≤ 100000000 := by omega
        have hP2 : (0 : Int) ≤ (P.length : Int) := by omega
        go_wp2_with fail
        refine (n_any W b _ _ hS.src (by omega) (by omega)).mono ?_
        rintro e w1 ⟨x, ⟨x1, x2⟩, rfl, s1, g1⟩
        have HS1 := hS.step s1 g1
        obtain ⟨base1, hb1, hown1⟩ := HS1.own
        have HCE := Lib.hid (nmc_cells hown1 rfl)
        have hgl : g < w1.heap.size := by
          rcases hown1.2 with ⟨e, _⟩ | ⟨g', cap', cur', e, _, hh', _⟩
          · cases e
          · injection e with e1 e2 e3
            injection e1 with e1
            injection e1 with e1
            subst e1
            exact (Array.getElem?_eq_some_iff.1 hh').1
        have S1 := Lib.hid HS1
        have HGL := Lib.hid hgl
        clear hS s1 g1 hown1 hb1 HS1 hgl
        obtain ⟨k, rfl⟩ := Int.eq_ofNat_of_zero_le x1
        have hk : k ≤ P.length := by omega
        have HKP := Lib.hid (insK_upto (k := k) HP.out)
        have HIL := Lib.hid (insK_len (x := (P.length : Int)) hk)
        clear x1 x2
        have KL := Lib.hid (show k ≤ P.length ∧ P.length ≤ 1000 ∧ P.length ≤ cap ∧ cap ≤ maxLen from ⟨hk, by omega, hle, hmax⟩)
        have k0 : (0 : Int) ≤ (k : Int) := by omega
        have k1 : (k : Int) ≤ (P.length : Int) := by omega
        have k2 : (k : Int) ≤ (cap : Int) := by omega
        have c1 : (P.length : Int) ≤ (cap : Int) := by omega
        have BA : Hid (Below w1.heap.size w1 (w1.alloc (.cells #[.int .i64 (P.length : Int)] 3))) := Lib.hid ((Below.refl _ _).alloc (Nat.le_refl _) _)
        have HA : Hid (∀ (j : Nat) (u : Value), (nmc P)[j]? = some u → (w1.alloc (.cells #[.int .i64 (P.length : Int)] 3)).cell? ⟨g, j, none⟩ = some u) := Lib.hid (fun j u hu => (BA.out.cell (p := ⟨g, j, none⟩) HGL.out).trans (HCE.out j u hu))
        by_cases hkl : k < P.length
        · have k3 : ¬ cap = k := by omega
          have HDL : Hid ((nmc (P.drop k)).length = (P.length - k) * 1 ∧ (nmc (P.take k)).length = k * 1) := Lib.hid ⟨by rw [nmc_len, List.length_drop], by rw [nmc_len, List.length_take]; omega⟩
          have HDL3 : Hid ((nmc ((P.length : Int) :: P.drop k)).length = (1 + (P.length - k)) * 1) := Lib.hid (by rw [nmc_len, List.length_cons, List.length_drop]; omega)
          clear hPp hle hmax hk
          go_wp2_with (at_builtin; first | go_loud (refine wpList_append_grows _ rfl (.tmp 20) (.tmp 23) 28 rfl 3 i0 _ 1 8 Tryd.underlying28 hi hz0 hz1 hz2 rfl (by decide) (some ⟨w1.heap.size, 0, none⟩) 1 1 (nmc [(P.length : Int)]) rfl (fun h => by cases h) rfl (fun b h => by cases h; exact (World.news_of_block (cs := #[.int .i64 (P.length : Int)]) (t := 3) (fr := (0, 0)) (heap_alloc_new w1 _))) ⟨g, k, none⟩ (P.length - k) (cap - k) (nmc (P.drop k)) rfl HDL.out.1 (fun j u hu => by rw [Addr.add_lit]; exact HA.out _ u (nmc_cut k j u hu)) (nmc_one _) (by omega) (by have := KL.out; unfold maxLen; omega) (by have := KL.out; omega) ?_; intro v2 w2 hown2 hgr2; have HO2 := Lib.hid hown2; have HG2 := Lib.hid (below_new hgr2); have HN2 := Lib.hid (own_some (C := (P.length : Int) :: P.drop k) (n := 1 + (P.length - k)) hown2 (Nat.lt_of_lt_of_le Nat.zero_lt_one (Nat.le_add_right _ _))); obtain ⟨g2, cap2, rfl, hg2, hc2, hm2⟩ := HN2.out; clear hown2 hgr2 HN2) | go_loud (refine wpList_append_grows _ rfl (.tmp 28) (.tmp 29) 28 rfl 3 i0 _ 1 8 Tryd.underlying28 hi hz0 hz1 hz2 rfl (by decide) (some ⟨g, 0, none⟩) k k (nmc (P.take k)) rfl (fun h => by cases h) HDL.out.2 (fun b h j u hu => by cases h; rw [Addr.add_lit, Nat.zero_add, (HG2.out.cell (p := ⟨g, j, none⟩) (Nat.lt_of_lt_of_le HGL.out BA.out.size))]; exact HA.out _ u (nmc_beg k j u hu)) ⟨g2, 0, none⟩ (1 + (P.length - k)) cap2 (nmc ((P.length : Int) :: P.drop k)) rfl HDL3.out (fun j u hu => by rw [Addr.add_lit, Nat.zero_add]; exact hc2 j u hu) (nmc_one _) (by omega) (by have := KL.out; unfold maxLen; omega) (by have := KL.out; omega) ?_; intro v3 w3 hown3 hgr3; have HO3 := Lib.hid hown3; have HG3 := Lib.hid (below_new hgr3); clear hown3 hgr3))
          go_roundw
          case rel => exact ⟨P.length + 1, insK k (P.length : Int) P, by omega, by go_num, HKP.out, S1.out.next (Q := insK k (P.length : Int) P) ((BA.out.trans (HG2.out.mono BA.out.size)).trans (HG3.out.mono (BA.out.trans (HG2.out.mono BA.out.size)).size)) (by have h := HO3.out; rw [← nmc_app] at h; exact h) (by rw [HIL.out]; omega) (BA.out.trans (HG2.out.mono BA.out.size)).size (by omega)⟩
          case measure => simp [intOf]; omega
        · obtain rfl : k = P.length := by omega
          clear hk hkl k1 k2
          by_cases hcap : cap = P.length
          · subst hcap
            go_wp2_with (at_builtin; first | (refine wpList_append_nothing _ rfl (.tmp 20) (.tmp 23) 28 rfl 3 i0 Tryd.underlying28 hi _ 1 1 (Nat.le_refl _) rfl _ rfl (Go.Src.ofSlice _ Tryd.underlying28 _ 0 _ [] (by simp) (fun j u h => by simp at h) (fun u h => by cases h)) ?_) | go_loud (refine wpList_append_grows _ rfl (.tmp 28) (.tmp 29) 28 rfl 3 i0 _ 1 8 Tryd.underlying28 hi hz0 hz1 hz2 rfl (by decide) (some ⟨g, 0, none⟩) P.length P.length (nmc P) rfl (fun h => by cases h) (nmc_len _) (fun b h j u hu => by cases h; rw [Addr.add_lit, Nat.zero_add]; exact HA.out j u hu) ⟨w1.heap.size, 0, none⟩ 1 1 (nmc [(P.length : Int)]) rfl rfl (World.news_of_block (cs := #[.int .i64 (P.length : Int)]) (t := 3) (fr := (0, 0)) (heap_alloc_new w1 _)) (nmc_one _) (by omega) (by unfold maxLen; omega) (by omega) ?_; intro v3 w3 hown3 hgr3; have HO3 := Lib.hid hown3; have HG3 := Lib.hid (below_new hgr3); clear hown3 hgr3))
            go_roundw
            case rel => exact ⟨P.length + 1, insK P.length (P.length : Int) P, by omega, by go_num, HKP.out, S1.out.next (Q := insK P.length (P.length : Int) P) (BA.out.trans (HG3.out.mono BA.out.size)) (by have h := HO3.out; rw [← nmc_app] at h; rw [show insK P.length (P.length : Int) P = P ++ [(P.length : Int)] by unfold insK; rw [List.take_length, List.drop_length]]; exact h) (by rw [HIL.out]) BA.out.size (by omega)⟩
            case measure => simp [intOf]; omega
          · have k3 : ¬ cap = P.length := hcap
            clear hcap
            go_wp2_with (at_builtin; first | (refine wpList_append_nothing _ rfl (.tmp 20) (.tmp 23) 28 rfl 3 i0 Tryd.underlying28 hi _ 1 1 (Nat.le_refl _) rfl _ rfl (Go.Src.ofSlice _ Tryd.underlying28 _ 0 _ [] (by simp) (fun j u h => by simp at h) (fun u h => by cases h)) ?_) | go_loud (refine wpList_append_grows _ rfl (.tmp 28) (.tmp 29) 28 rfl 3 i0 _ 1 8 Tryd.underlying28 hi hz0 hz1 hz2 rfl (by decide) (some ⟨g, 0, none⟩) P.length P.length (nmc P) rfl (fun h => by cases h) (nmc_len _) (fun b h j u hu => by cases h; rw [Addr.add_lit, Nat.zero_add]; exact HA.out j u hu) ⟨w1.heap.size, 0, none⟩ 1 1 (nmc [(P.length : Int)]) rfl rfl (World.news_of_block (cs := #[.int .i64 (P.length : Int)]) (t := 3) (fr := (0, 0)) (heap_alloc_new w1 _)) (nmc_one _) (by omega) (by unfold maxLen; omega) (by omega) ?_; intro v3 w3 hown3 hgr3; have HO3 := Lib.hid hown3; have HG3 := Lib.hid (below_new hgr3); clear hown3 hgr3))
            go_roundw
            case rel => exact ⟨P.length + 1, insK P.length (P.length : Int) P, by omega, by go_num, HKP.out, S1.out.next (Q := insK P.length (P.length : Int) P) (BA.out.trans (HG3.out.mono BA.out.size)) (by have h := HO3.out; rw [← nmc_app] at h; rw [show insK P.length (P.length : Int) P = P ++ [(P.length : Int)] by unfold insK; rw [List.take_length, List.drop_length]]; exact h) (by rw [HIL.out]) BA.out.size (by omega)⟩
            case measure => simp [intOf]; omega
    · have hie : i = n := by omega
      subst hie
      have HS := Lib.hid hS; clear hS
      go_wp2_with fail
      go_ret
      exact ⟨_, P, rfl, HP.out, HS.out⟩
end Go.Proofs.YtcheadbhkbbegaaDoor
