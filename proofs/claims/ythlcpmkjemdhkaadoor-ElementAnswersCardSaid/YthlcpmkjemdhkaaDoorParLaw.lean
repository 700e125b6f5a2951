/- The walk of ElementParts: for every two lists of numbers the law returns true, and what lay in memory is as it was. -/
import Derived.Test.YthlcpmkjemdhkaaDoorRList
import Derived.Test.YthlcpmkjemdhkaaDoorVal2
import Derived.Test.YthlcpmkjemdhkaaDoorAwake
import Derived.ArgAppend
import Derived.Deep.Upon
namespace Go.Proofs.YthlcpmkjemdhkaaDoor
open Go.RowKit

theorem infoInt : (Tryd.prog.info? 3).map (fun i => (i.zero, i.size, i.bytes)) = some (some (.int .i64 0), 1, 8) := by kernel_rfl
/-- NOTHING IS APPENDED, FOR THE WALK. -/
theorem wpList_append_nothing {P : Program} (w : World) {ops : Array Oper} {rest : List Oper} {o : Oper} {a : Act} {Q : Exit → Act → World → Prop} (hgd : o.guard = none) (s x : Operand) (t : TypeId)
    (ho : o.op = .call { callee := .builtin .append, args := #[s, x], argTypes := #[t, t] }) (e : TypeId) (i : TypeInfo) (ht : P.underlying t = some (.slice e)) (hi : P.info? e = some i)
    (base : Option Addr) (n c : Nat) (hle : n ≤ c) (hs : a.eval s = .slice base n c) (v : Value) (hx : a.eval x = v) (src : Go.Src P i.size t v 0 [] w)
    (hK : wpList P ops Q rest (a.put o.dst (.slice base n c)) w) : wpList P ops Q (o :: rest) a w := by
  refine wpList_plain hgd fun K hK' => ?_
  have hrun := run_append_nothing (P := P) w t t o.type e i ht hi base n c hle v src
  unfold Oper.wp
  simp [execOp, ho, resolve, invoke, builtin, hs, hx, hrun, Result.andThen]
  exact hK' _ _ hK
def nmc (C : List Int) : List Value := C.map (Value.int .i64)
theorem nmc_at {C : List Int} {i : Nat} (h : i < C.length) : (nmc C)[i]? = some (.int .i64 C[i]) := by unfold nmc; rw [List.getElem?_map, List.getElem?_eq_getElem h]; rfl
theorem nmc_one (C : List Int) : ∀ u ∈ nmc C, u.oneCell' = true := by
  intro u hu
  obtain ⟨x, -, rfl⟩ := List.mem_map.1 hu
  rfl
theorem NmIn.own {w : World} {base : Nat} {v : Value} {C : List Int} (h : w.ownsRow base 3 1 v C.length (nmc C)) : NmIn w v C := by
  have h' := h
  rcases h.2 with ⟨rfl, h0⟩ | ⟨g, cap, cur, rfl, _, hh, hle, hmax, _, _⟩
  · have := List.eq_nil_of_length_eq_zero h0
    subst this
    exact ⟨none, 0, rfl, Nat.le_refl _, by omega, fun i hi => by simp at hi⟩
  · refine ⟨some ⟨g, 0, none⟩, cap, rfl, hle, by unfold maxLen at hmax; omega, fun i hi => ⟨g, 0, rfl, (Array.getElem?_eq_some_iff.1 hh).1, ?_⟩⟩
    rw [Nat.zero_add, h'.cellAt i (by omega)]
    exact nmc_at hi
theorem NmIn.two {w : World} {g : Nat} {a b : Int} (r : Row w g 3 #[.int .i64 a, .int .i64 b]) : NmIn w (.slice (some ⟨g, 0, none⟩) 2 2) [a, b] := by
  refine ⟨_, 2, rfl, Nat.le_refl _, by omega, fun i hi => ⟨g, 0, rfl, r.lt, ?_⟩⟩
  obtain ⟨c0, c1⟩ := row2 r
  have hi' : i < 2 := hi
  rcases (by omega : i = 0 ∨ i = 1) with rfl | rfl
  · exact c0
  · exact c1
/-- What is known in the loop. -/
structure Pt (W : World) (x y s : Value) (M : List Elt.R) (C : List Int) (w : World) : Prop where
  below : Below W.heap.size W w
  xs : RdIn w x M
  ys : RdIn w y (Elt.wout M C)
  nm : NmIn w s C
theorem Pt.under {W w w' : World} {x y s : Value} {M : List Elt.R} {C : List Int} (h : Pt W x y s M C w) (hb : Below w.heap.size w w') : Pt W x y s M C w' := ⟨h.below.trans (hb.mono h.below.size), h.xs.under hb, h.ys.under hb, h.nm.under hb⟩
theorem below_new {w w' : World} (hg : w.grownBy w' none) : Below w.heap.size w w' := (Below.refl _ w).grown hg (Nat.le_refl _) (by simp)
/-- What is known before the list is thinned out. -/
structure Pq (W : World) (x s : Value) (M : List Elt.R) (C : List Int) (w : World) : Prop where
  below : Below W.heap.size W w
  xs : RdIn w x M
  nm : NmIn w s C
set_option maxRecDepth 100000 in
set_option maxHeartbeats 8000000 in
theorem elementParts_any (v cv : Value) (w : World) (hE : Env w) (hl : ListIn w v) (hc : ListIn w cv) :
    Calls Tryd.prog 6 #[v, cv] w fun e w' => e = .returned (.bool true) ∧ Below w.heap.size w w' := by
  obtain ⟨i0, hi, hz0, hz1, hz2⟩ := info_parts infoInt
  have HE := Lib.hid hE; clear hE
  obtain ⟨B, n, cap, hcv, hn1, hn2, hcn⟩ : ∃ B n cap, cv = .slice B n cap ∧ n ≤ cap ∧ cap ≤ 9223372036854775807 ∧ (n = 0 → B = none → cap = 0) := by
    rcases hc with rfl | ⟨a, n, c, rfl, h1, h2, h3⟩
    · exact ⟨none, 0, 0, rfl, Nat.le_refl _, by omega, fun _ _ => rfl⟩
    · exact ⟨some a, n, c, rfl, h1, h2, fun _ h => by cases h⟩
  obtain ⟨C, hC⟩ := NmIn.of hc
  have HC := Lib.hid hC
  have hCn : C.length = n := by
    obtain ⟨A, cap', e, -⟩ := hC
    rw [hcv] at e
    injection e with _ e2 _
    exact e2.symm
  subst hcv
  clear hC hc
  by_cases hlen : 60 < n
  · have hlen' : (60 : Int) < (n : Int) := by omega
    go_enter Tryd.func6, Tryd.ntmps6
    go_wp2_with fail
    refine (awake_from (w0 := w) _ HE.out (Below.refl _ _)).mono ?_
    rintro e w1 ⟨rfl, g1⟩
    go_wp2_with fail
    go_ret
    exact ⟨rfl, g1⟩
  · have hlen' : ¬ (60 : Int) < (n : Int) := by omega
    go_enter Tryd.func6, Tryd.ntmps6
    go_wp2_with fail
    refine (new_any _ _ hl).mono ?_
    rintro e w1 ⟨rfl, s1, -⟩
    go_wp2_with fail
    refine (list_any _ _ _ s1).mono ?_
    rintro e w2 ⟨x, M, rfl, hG, hS⟩
    have HG := Lib.hid hG
    clear hG s1 hl
    go_wp2_with fail
    refine (range_any _ _ _ _ _ hS.src (by omega) (by omega) (by omega) (by omega)).mono ?_
    rintro e w3 ⟨a, ⟨a1, a2⟩, rfl, s3, g3⟩
    have S3 := hS.step s3 g3
    clear hS s3 g3
    go_wp2_with fail
    refine (range_any _ _ _ _ _ S3.src (by omega) (by omega) (by omega) (by omega)).mono ?_
    rintro e w4 ⟨b, ⟨b1, b2⟩, rfl, s4, g4⟩
    have S4 := S3.step s4 g4
    have B4 := Lib.hid S4.src.below
    have X4 := Lib.hid (RdIn.own S4.own)
    have R4 := Lib.hid (Row.new w4 #[.int .i64 a, .int .i64 b] 3)
    have G4 : Hid (Below w4.heap.size w4 (w4.alloc (.cells #[.int .i64 a, .int .i64 b] 3))) := Lib.hid ((Below.refl _ _).alloc (Nat.le_refl _) _)
    clear S3 s4 g4 S4
    by_cases hn0 : n = 0
    · subst hn0
      obtain rfl : C = [] := List.eq_nil_of_length_eq_zero hCn
      have N5 := NmIn.two R4.out
      have PQ : Hid (Pq w x (.slice (some ⟨w4.heap.size, 0, none⟩) 2 2) M [a, b] (w4.alloc (.cells #[.int .i64 a, .int .i64 b] 3))) := Lib.hid ⟨B4.out.trans (G4.out.mono B4.out.size), X4.out.under G4.out, N5⟩
      clear X4 R4 G4 B4 HC N5
      obtain ⟨CC, hCC⟩ : ∃ CC, [a, b] = CC := ⟨_, rfl⟩
      rw [hCC] at PQ
      clear hCC hlen hlen' hn1
      cases B with
      | none =>
        obtain rfl := hcn rfl rfl
        go_wp2_with (at_builtin; go_loud (refine wpList_append_nothing _ rfl (.tmp 26) (.tmp 27) 23 rfl 3 i0 Tryd.underlying23 hi _ 2 2 (Nat.le_refl _) rfl _ rfl (Go.Src.ofNil _ Tryd.underlying23 0) ?_))
        generalize w4.alloc (.cells #[.int .i64 a, .int .i64 b] 3) = W5 at *
        generalize (Value.slice (some ⟨w4.heap.size, 0, none⟩) 2 2) = sv at *
        have hlM : M.length ≤ 1000 := by have := HG.out.len; omega
        have HX := Lib.hid PQ.out
        clear PQ
        refine (without_any x sv M CC _ HX.out.xs HX.out.nm hlM).mono ?_
        rintro e w6 ⟨y, rfl, g6, hy⟩
        have P6 := Lib.hid (Pt.mk (HX.out.below.trans (g6.mono HX.out.below.size)) (HX.out.xs.under g6) hy (HX.out.nm.under g6))
        have V1 := validate_any x M _ P6.out.xs (HE.out.under P6.out.below).tab
        rw [HG.out.vld] at V1
        have HV1 := Lib.hid V1
        clear V1 g6 hy HX hlM
        go_wp2_with fail
        refine HV1.out.mono ?_
        rintro e w7 ⟨rfl, g7⟩
        have P7 := Lib.hid (P6.out.under g7)
        have V2 := validate_any y (Elt.wout M CC) _ P7.out.ys (HE.out.under P7.out.below).tab
        rw [HG.out.wout] at V2
        have HV2 := Lib.hid V2
        clear V2 g7 P6 HV1
        go_wp2_with fail
        refine HV2.out.mono ?_
        rintro e w8 ⟨rfl, g8⟩
        have P8 := Lib.hid (P7.out.under g8)
        clear g8 P7 HV2
        go_wp2_with fail
        go_loopw [9] (fun t wr => ∃ k : Int, 1 ≤ k ∧ k ≤ 12 ∧ t = .int .i64 k ∧ Pt w x y sv M CC wr) (fun t _ => (12 - intOf t).toNat)
        case atStart => exact ⟨1, by omega, by omega, rfl, P8.out⟩
        case round =>
          clear P8
          obtain ⟨k, k1, k2, rfl, hP⟩ := hrel
          have HP := Lib.hid hP; clear hP
          by_cases k3 : k ≤ 11
          · have HF := Lib.hid (fnd_wout M CC k)
            go_wp2_with fail
            refine (find_any x M k _ HP.out.xs).mono ?_
            rintro e w9 ⟨rfl, g9⟩
            have P9 := Lib.hid (HP.out.under g9)
            clear g9 HP
            go_wp2_with fail
            refine (find_any y (Elt.wout M CC) k _ P9.out.ys).mono ?_
            rintro e w10 ⟨rfl, g10⟩
            have P10 := Lib.hid (P9.out.under g10)
            clear g10 P9
            rw [HF.out]
            have HI := Lib.hid (in_any sv CC k w10 P10.out.nm)
            generalize Elt.fnd M k = fx at *
            clear HF
            cases fx with
            | none =>
              have e0 : (if CC.contains k = true then none else (none : Option Int)) = none := by split <;> rfl
              rw [e0]
              simp only [Option.getD_none, Option.isSome_none]
              go_wp2_with fail
              go_roundw
              case rel => exact ⟨k + 1, by omega, by omega, by go_num, P10.out⟩
              case measure => simp [intOf]; omega
            | some val =>
              cases hcc : CC.contains k with
              | true =>
                rw [hcc] at HI
                simp only [if_true, Option.getD_none, Option.isSome_none, Option.getD_some, Option.isSome_some]
                clear hcc
                go_wp2_with fail
                refine HI.out.mono ?_
                rintro e w11 ⟨rfl, rfl⟩
                go_wp2_with fail
                go_roundw
                case rel => exact ⟨k + 1, by omega, by omega, by go_num, P10.out⟩
                case measure => simp [intOf]; omega
              | false =>
                rw [hcc] at HI
                simp only [if_false, Bool.false_eq_true, Option.getD_some, Option.isSome_some]
                have ev : (val == val) = true := beq_self_eq_true _
                clear hcc
                go_wp2_with fail
                refine HI.out.mono ?_
                rintro e w11 ⟨rfl, rfl⟩
                go_wp2_with fail
                go_roundw
                case rel => exact ⟨k + 1, by omega, by omega, by go_num, P10.out⟩
                case measure => simp [intOf]; omega
          · go_wp2_with fail
            refine (awake_from (w0 := w) _ (HE.out.under HP.out.below) HP.out.below).mono ?_
            rintro e w9 ⟨rfl, g9⟩
            have B9 := Lib.hid g9; clear g9
            go_wp2_with fail
            go_ret
            exact ⟨rfl, B9.out⟩
      | some B =>
        go_wp2_with (at_builtin; go_loud (refine wpList_append_nothing _ rfl (.tmp 26) (.tmp 27) 23 rfl 3 i0 Tryd.underlying23 hi _ 2 2 (Nat.le_refl _) rfl _ rfl (Go.Src.ofSlice _ Tryd.underlying23 B 0 cap [] (by simp) (fun j u h => by simp at h) (fun u h => by cases h)) ?_))
        generalize w4.alloc (.cells #[.int .i64 a, .int .i64 b] 3) = W5 at *
        generalize (Value.slice (some ⟨w4.heap.size, 0, none⟩) 2 2) = sv at *
        have hlM : M.length ≤ 1000 := by have := HG.out.len; omega
        have HX := Lib.hid PQ.out
        clear PQ
        refine (without_any x sv M CC _ HX.out.xs HX.out.nm hlM).mono ?_
        rintro e w6 ⟨y, rfl, g6, hy⟩
        have P6 := Lib.hid (Pt.mk (HX.out.below.trans (g6.mono HX.out.below.size)) (HX.out.xs.under g6) hy (HX.out.nm.under g6))
        have V1 := validate_any x M _ P6.out.xs (HE.out.under P6.out.below).tab
        rw [HG.out.vld] at V1
        have HV1 := Lib.hid V1
        clear V1 g6 hy HX hlM
        go_wp2_with fail
        refine HV1.out.mono ?_
        rintro e w7 ⟨rfl, g7⟩
        have P7 := Lib.hid (P6.out.under g7)
        have V2 := validate_any y (Elt.wout M CC) _ P7.out.ys (HE.out.under P7.out.below).tab
        rw [HG.out.wout] at V2
        have HV2 := Lib.hid V2
        clear V2 g7 P6 HV1
        go_wp2_with fail
        refine HV2.out.mono ?_
        rintro e w8 ⟨rfl, g8⟩
        have P8 := Lib.hid (P7.out.under g8)
        clear g8 P7 HV2
        go_wp2_with fail
        go_loopw [9] (fun t wr => ∃ k : Int, 1 ≤ k ∧ k ≤ 12 ∧ t = .int .i64 k ∧ Pt w x y sv M CC wr) (fun t _ => (12 - intOf t).toNat)
        case atStart => exact ⟨1, by omega, by omega, rfl, P8.out⟩
        case round =>
          clear P8
          obtain ⟨k, k1, k2, rfl, hP⟩ := hrel
          have HP := Lib.hid hP; clear hP
          by_cases k3 : k ≤ 11
          · have HF := Lib.hid (fnd_wout M CC k)
            go_wp2_with fail
            refine (find_any x M k _ HP.out.xs).mono ?_
            rintro e w9 ⟨rfl, g9⟩
            have P9 := Lib.hid (HP.out.under g9)
            clear g9 HP
            go_wp2_with fail
            refine (find_any y (Elt.wout M CC) k _ P9.out.ys).mono ?_
            rintro e w10 ⟨rfl, g10⟩
            have P10 := Lib.hid (P9.out.under g10)
            clear g10 P9
            rw [HF.out]
            have HI := Lib.hid (in_any sv CC k w10 P10.out.nm)
            generalize Elt.fnd M k = fx at *
            clear HF
            cases fx with
            | none =>
              have e0 : (if CC.contains k = true then none else (none : Option Int)) = none := by split <;> rfl
              rw [e0]
              simp only [Option.getD_none, Option.isSome_none]
              go_wp2_with fail
              go_roundw
              case rel => exact ⟨k + 1, by omega, by omega, by go_num, P10.out⟩
              case measure => simp [intOf]; omega
            | some val =>
              cases hcc : CC.contains k with
              | true =>
                rw [hcc] at HI
                simp only [if_true, Option.getD_none, Option.isSome_none, Option.getD_some, Option.isSome_some]
                clear hcc
                go_wp2_with fail
                refine HI.out.mono ?_
                rintro e w11 ⟨rfl, rfl⟩
                go_wp2_with fail
                go_roundw
                case rel => exact ⟨k + 1, by omega, by omega, by go_num, P10.out⟩
                case measure => simp [intOf]; omega
              | false =>
                rw [hcc] at HI
                simp only [if_false, Bool.false_eq_true, Option.getD_some, Option.isSome_some]
                have ev : (val == val) = true := beq_self_eq_true _
                clear hcc
                go_wp2_with fail
                refine HI.out.mono ?_
                rintro e w11 ⟨rfl, rfl⟩
                go_wp2_with fail
                go_roundw
                case rel => exact ⟨k + 1, by omega, by omega, by go_num, P10.out⟩
                case measure => simp [intOf]; omega
          · go_wp2_with fail
            refine (awake_from (w0 := w) _ (HE.out.under HP.out.below) HP.out.below).mono ?_
            rintro e w9 ⟨rfl, g9⟩
            have B9 := Lib.hid g9; clear g9
            go_wp2_with fail
            go_ret
            exact ⟨rfl, B9.out⟩
    · have hnp : 0 < C.length := by omega
      obtain ⟨g, off, cap', e, -, -, hg, hcc⟩ := HC.out.one hnp
      injection e with e1 e2 e3
      subst e1
      subst e3
      have HG5 := Lib.hid (show g < w.heap.size ∧ ∀ i (h : i < C.length), w.cell? ⟨g, off + i, none⟩ = some (.int .i64 C[i]) from ⟨hg, hcc⟩)
      clear hg hcc e2 hcn
      subst hCn
      have HCC : Hid (∀ j u, (nmc C)[j]? = some u → (w4.alloc (.cells #[.int .i64 a, .int .i64 b] 3)).cell? ⟨g, off + j, none⟩ = some u) := Lib.hid (fun j u hu => by
        have hj : j < C.length := by have := (List.getElem?_eq_some_iff.1 hu).1; unfold nmc at this; rw [List.length_map] at this; exact this
        rw [nmc_at hj] at hu
        injection hu with hu
        rw [← hu, (B4.out.trans (G4.out.mono B4.out.size)).cell (p := ⟨g, off + j, none⟩) HG5.out.1]
        exact HG5.out.2 j hj)
      have hln : (nmc C).length = C.length * 1 := by unfold nmc; rw [List.length_map]; omega
      have HLN := Lib.hid hln; clear hln
      go_wp2_with (at_builtin; go_loud (refine wpList_append_grows _ rfl (.tmp 26) (.tmp 27) 23 rfl 3 i0 _ 1 8 Tryd.underlying23 hi hz0 hz1 hz2 rfl (by decide) (some ⟨w4.heap.size, 0, none⟩) 2 2 (nmc [a, b]) rfl (fun h => by cases h) rfl (fun b' h => by cases h; exact (World.news_of_block (cs := #[.int .i64 a, .int .i64 b]) (t := 3) (fr := (0, 0)) (heap_alloc_new w4 _))) ⟨g, off, none⟩ C.length cap (nmc C) rfl HLN.out (fun j u hu => by rw [Addr.add_lit]; exact HCC.out j u hu) (nmc_one _) (by omega) (by unfold maxLen; omega) (by omega) ?_; intro sv w5 hown5 hgr5; have HO := Lib.hid hown5; have HR := Lib.hid (below_new hgr5); clear hown5 hgr5))
      have HN5 : Hid (NmIn w5 sv (a :: b :: C)) := Lib.hid (NmIn.own (C := a :: b :: C) (by
        have h := HO.out
        rw [show 2 + C.length = (a :: b :: C).length by simp; omega] at h
        exact h))
      have PQ : Hid (Pq w x sv M (a :: b :: C) w5) := Lib.hid ⟨(B4.out.trans (G4.out.mono B4.out.size)).trans (HR.out.mono (B4.out.trans (G4.out.mono B4.out.size)).size), (X4.out.under G4.out).under HR.out, HN5.out⟩
      clear HN5 HO HR HCC HLN HG5 X4 R4 G4 B4 HC
      obtain ⟨CC, hCC⟩ : ∃ CC, a :: b :: C = CC := ⟨_, rfl⟩
      rw [hCC] at PQ
      clear hCC hn0 hnp hlen hlen' hn1
      have hlM : M.length ≤ 1000 := by have := HG.out.len; omega
      have HX := Lib.hid PQ.out
      clear PQ
      refine (without_any x sv M CC _ HX.out.xs HX.out.nm hlM).mono ?_
      rintro e w6 ⟨y, rfl, g6, hy⟩
      have P6 := Lib.hid (Pt.mk (HX.out.below.trans (g6.mono HX.out.below.size)) (HX.out.xs.under g6) hy (HX.out.nm.under g6))
      have V1 := validate_any x M _ P6.out.xs (HE.out.under P6.out.below).tab
      rw [HG.out.vld] at V1
      have HV1 := Lib.hid V1
      clear V1 g6 hy HX hlM
      go_wp2_with fail
      refine HV1.out.mono ?_
      rintro e w7 ⟨rfl, g7⟩
      have P7 := Lib.hid (P6.out.under g7)
      have V2 := validate_any y (Elt.wout M CC) _ P7.out.ys (HE.out.under P7.out.below).tab
      rw [HG.out.wout] at V2
      have HV2 := Lib.hid V2
      clear V2 g7 P6 HV1
      go_wp2_with fail
      refine HV2.out.mono ?_
      rintro e w8 ⟨rfl, g8⟩
      have P8 := Lib.hid (P7.out.under g8)
      clear g8 P7 HV2
      go_wp2_with fail
      go_loopw [9] (fun t wr => ∃ k : Int, 1 ≤ k ∧ k ≤ 12 ∧ t = .int .i64 k ∧ Pt w x y sv M CC wr) (fun t _ => (12 - intOf t).toNat)
      case atStart => exact ⟨1, by omega, by omega, rfl, P8.out⟩
      case round =>
        clear P8
        obtain ⟨k, k1, k2, rfl, hP⟩ := hrel
        have HP := Lib.hid hP; clear hP
        by_cases k3 : k ≤ 11
        · have HF := Lib.hid (fnd_wout M CC k)
          go_wp2_with fail
          refine (find_any x M k _ HP.out.xs).mono ?_
          rintro e w9 ⟨rfl, g9⟩
          have P9 := Lib.hid (HP.out.under g9)
          clear g9 HP
          go_wp2_with fail
          refine (find_any y (Elt.wout M CC) k _ P9.out.ys).mono ?_
          rintro e w10 ⟨rfl, g10⟩
          have P10 := Lib.hid (P9.out.under g10)
          clear g10 P9
          rw [HF.out]
          have HI := Lib.hid (in_any sv CC k w10 P10.out.nm)
          generalize Elt.fnd M k = fx at *
          clear HF
          cases fx with
          | none =>
            have e0 : (if CC.contains k = true then none else (none : Option Int)) = none := by split <;> rfl
            rw [e0]
            simp only [Option.getD_none, Option.isSome_none]
            go_wp2_with fail
            go_roundw
            case rel => exact ⟨k + 1, by omega, by omega, by go_num, P10.out⟩
            case measure => simp [intOf]; omega
          | some val =>
            cases hcc : CC.contains k with
            | true =>
              rw [hcc] at HI
              simp only [if_true, Option.getD_none, Option.isSome_none, Option.getD_some, Option.isSome_some]
              clear hcc
              go_wp2_with fail
              refine HI.out.mono ?_
              rintro e w11 ⟨rfl, rfl⟩
              go_wp2_with fail
              go_roundw
              case rel => exact ⟨k + 1, by omega, by omega, by go_num, P10.out⟩
              case measure => simp [intOf]; omega
            | false =>
              rw [hcc] at HI
              simp only [if_false, Bool.false_eq_true, Option.getD_some, Option.isSome_some]
              have ev : (val == val) = true := beq_self_eq_true _
              clear hcc
              go_wp2_with fail
              refine HI.out.mono ?_
              rintro e w11 ⟨rfl, rfl⟩
              go_wp2_with fail
              go_roundw
              case rel => exact ⟨k + 1, by omega, by omega, by go_num, P10.out⟩
              case measure => simp [intOf]; omega
        · go_wp2_with fail
          refine (awake_from (w0 := w) _ (HE.out.under HP.out.below) HP.out.below).mono ?_
          rintro e w9 ⟨rfl, g9⟩
          have B9 := Lib.hid g9; clear g9
          go_wp2_with fail
          go_ret
          exact ⟨rfl, B9.out⟩
end Go.Proofs.YthlcpmkjemdhkaaDoor
