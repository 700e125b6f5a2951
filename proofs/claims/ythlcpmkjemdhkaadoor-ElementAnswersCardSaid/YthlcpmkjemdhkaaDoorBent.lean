/- The contract of the law's bent: readings in which one thing is changed. -/
import Derived.Test.YthlcpmkjemdhkaaDoorSrtMath
import Derived.Deep.Upon
import Derived.ArgAppend
namespace Go.Proofs.YthlcpmkjemdhkaaDoor
open Go.RowKit
/-- APPEND TO AN OWNED ROW, NOTHING OR MORE, FOR THE WALK. -/
theorem wpList_append_own' {P : Program} {ops : Array Oper} {rest : List Oper} {o : Oper} {a : Act} {w : World} {Q : Exit → Act → World → Prop} (hgd : o.guard = none) (s x : Operand) (t : TypeId)
    (ho : o.op = .call { callee := .builtin .append, args := #[s, x], argTypes := #[t, t] })
    (base : Nat) (e : TypeId) (i : TypeInfo) (z : Value) (size bytes : Nat) (ht : P.underlying t = some (.slice e)) (hi : P.info? e = some i) (hz : i.zero = some z)
    (hsize : i.size = size) (hby : i.bytes = bytes) (hzs : z.cells.size = size) (hsz : 0 < size)
    (v : Value) (n : Nat) (xs : List Value) (hs : a.eval s = v) (hown : w.ownsRow base e size v n xs)
    (ad : Addr) (m c : Nat) (news : List Value) (hx : a.eval x = .slice (some ad) m c) (hl : news.length = m * size) (hnews : ∀ j u, news[j]? = some u → w.cell? (ad.add j) = some u) (h1 : ∀ u ∈ news, u.oneCell' = true)
    (h63 : n + m ≤ maxLen) (hbytes : (n + m) * bytes ≤ 140737488355328) (hbase : base ≤ w.heap.size)
    (h : ∀ v' w', w'.ownsRow base e size v' (n + m) (xs ++ news) → w.grownBy w' v.ownBlock → wpList P ops Q rest (a.put o.dst v') w') : wpList P ops Q (o :: rest) a w := by
  refine wpList_plain hgd fun _ hK => ?_
  obtain ⟨v', w', hr, h2, h3, -⟩ := run_append_own (P := P) w base t o.type e i z size bytes ht hi hz hsize hby hzs hsz v n xs hown ad m c news hl hnews h1 h63 hbytes hbase
  unfold Oper.wp execOp
  simp only [ho, resolve, invoke, builtin, Sem.run_bind, Sem.run_pure, Result.andThen_ok, List.map_toArray, List.map_cons, List.map_nil, hs, hx, hr]
  exact hK _ _ (h v' w' h2 h3)
theorem rdc_set : ∀ (M : List Elt.R) (j : Nat) (x : Int), j < M.length * 2 → ∃ N : List Elt.R, N.length = M.length ∧ (rdc M).set j (.int .i64 x) = rdc N
  | [], j, x, h => by simp at h
  | (a, b) :: r, 0, x, _ => ⟨(x, b) :: r, rfl, rfl⟩
  | (a, b) :: r, 1, x, _ => ⟨(a, x) :: r, rfl, rfl⟩
  | (a, b) :: r, j + 2, x, h => by
    obtain ⟨N, h1, h2⟩ := rdc_set r j x (by simp at h; omega)
    refine ⟨(a, b) :: N, by simp [h1], ?_⟩
    show Value.int .i64 a :: Value.int .i64 b :: (rdc r).set j (.int .i64 x) = _
    rw [h2]
    rfl
theorem Gl.put {W w0 w : World} {b g n cap : Nat} {M : List Elt.R} (h : Gl W b w0 M (.slice (some ⟨g, 0, none⟩) n cap) w) (hn : n = M.length) (hW : W.heap.size ≤ w0.heap.size) (j : Nat) (hj : j < M.length * 2) (x : Int) :
    ∃ N : List Elt.R, N.length = M.length ∧ Gl W b w0 N (.slice (some ⟨g, 0, none⟩) n cap) (w.setCell ⟨g, j, none⟩ (.int .i64 x)) := by
  subst hn
  obtain ⟨N, h1, h2⟩ := rdc_set M j x hj
  obtain ⟨hown, hg⟩ := h.own.stored j (.int .i64 x)
  obtain ⟨cs, hr⟩ := src_row h.src
  have hlo : w0.heap.size ≤ g := (h.own.lt g rfl).1
  refine ⟨N, h1, src_kept h.src hg (fun e => own_ne h.own hr (by decide) (by rw [← e]; rfl)) (fun i e => by injection e with e; omega), ?_, ?_⟩
  · exact ⟨hg.os.trans h.gro.os, hg.tape.trans h.gro.tape, hg.output.trans h.gro.output, Nat.le_trans h.gro.size hg.size, fun i hi hne => (hg.block i (Nat.lt_of_lt_of_le hi h.gro.size) (fun e => by injection e with e; omega)).trans (h.gro.block i hi hne)⟩
  · rw [← h2, h1]
    exact hown
theorem Gl.app {W w0 w w' : World} {b m : Nat} {M N : List Elt.R} {u v : Value} (h : Gl W b w0 M u w) (hW : W.heap.size ≤ w0.heap.size) (hm : N.length = m)
    (hown : w'.ownsRow w0.heap.size 47 2 v (M.length + m) (rdc M ++ rdc N)) (hg : w.grownBy w' u.ownBlock) : Gl W b w0 (M ++ N) v w' := by
  obtain ⟨cs, hr⟩ := src_row h.src
  have hlo : ∀ i, u.ownBlock = some i → w0.heap.size ≤ i := fun i e => (h.own.lt i e).1
  refine ⟨src_kept h.src hg (fun e => own_ne h.own hr (by decide) e.symm) (fun i e => Nat.le_trans hW (hlo i e)), ?_, by rw [rdc_app, List.length_append, hm]; exact hown⟩
  exact ⟨hg.os.trans h.gro.os, hg.tape.trans h.gro.tape, hg.output.trans h.gro.output, Nat.le_trans h.gro.size hg.size, fun i hi hne => (hg.block i (Nat.lt_of_lt_of_le hi h.gro.size) (fun e => by have := hlo i e.symm; omega)).trans (h.gro.block i hi hne)⟩
theorem Gl.lit {W w0 : World} {b : Nat} (h : Src W b w0) : Gl W b w0 [] (.slice (some ⟨w0.heap.size, 0, none⟩) 0 0) (w0.alloc (.cells #[] 47)) :=
  ⟨h.under ((Below.refl _ _).alloc (Nat.le_refl _) _), grown_below ((Below.refl _ _).alloc (Nat.le_refl _) _), World.ownsRow_lit w0 #[] 0 (Nat.le_refl _) (by decide) rfl⟩
/-- What bent leaves. -/
def Bnt (W : World) (b : Nat) (w : World) (e : Ending) (w' : World) : Prop := ∃ u N, e = .returned u ∧ N.length ≤ 13 ∧ Gl W b w N u w'
set_option maxRecDepth 100000 in
set_option maxHeartbeats 8000000 in
theorem bent_any (W : World) (b : Nat) (w : World) (v : Value) (M : List Elt.R) (base : Nat) (h : Src W b w) (hv : w.ownsRow base 47 2 v M.length (rdc M)) (hl : M.length ≤ 11) :
    Calls Tryd.prog 14 #[.pointer (some ⟨b, 0, none⟩), v] w (Bnt W b w) := by
  obtain ⟨i0, hi, hz0, hz1, hz2⟩ := info_parts infoReading
  have hW := h.below.size
  have L0 := Lib.hid (Gl.lit h)
  have HV := Lib.hid hv
  go_enter Tryd.func14, Tryd.ntmps14
  go_upto_region 1 with fail
  go_cut [5] from 7 to 9 (fun o wc => Gl W b w M o wc)
  case first =>
    rcases hv.2 with ⟨rfl, h0⟩ | ⟨g, cap, cur, rfl, _, hh, hle, hmax, _, _⟩
    · obtain rfl : M = [] := List.eq_nil_of_length_eq_zero h0
      clear hv h0
      go_wp2_with (at_builtin; go_loud (refine wpList_append_nothing _ rfl (.tmp 7) (.tmp 8) 22 rfl 47 i0 Tryd.underlying22 hi _ 0 0 (Nat.le_refl _) rfl _ rfl (Go.Src.ofNil _ Tryd.underlying22 0) ?_))
      go_meet
      exact L0.out
    · have CA := Lib.hid (CellsAt.of (w := w) (g := g) (off := 0) (L := M) (Array.getElem?_eq_some_iff.1 hh).1 (fun i hi => by rw [Nat.zero_add, hv.cellAt (i * 2) (by omega), hv.cellAt (i * 2 + 1) (by omega)]; exact rdc_at M i hi))
      have HL := Lib.hid (rdc_len M)
      clear hv hh
      go_wp2_with (at_builtin; go_loud (refine wpList_append_own' rfl (.tmp 7) (.tmp 8) 22 rfl w.heap.size 47 i0 _ 2 16 Tryd.underlying22 hi hz0 hz1 hz2 rfl (by decide) _ ([] : List Elt.R).length (rdc []) rfl L0.out.own ⟨g, 0, none⟩ M.length cap (rdc M) rfl HL.out (CA.out.under ((Below.refl _ _).alloc (Nat.le_refl _) _)).adds (rdc_one _) (by simp only [List.length_nil]; unfold maxLen; omega) (by simp only [List.length_nil]; omega) L0.out.gro.size ?_; intro vn w3 hown hgr; have L9 : Hid (Gl W b w M vn w3) := Lib.hid (L0.out.app (N := M) (m := M.length) hW rfl hown hgr); clear hown hgr))
      go_meet
      exact L9.out
  case rest =>
    have HC := Lib.hid hcut
    have HF := Lib.hid hcut.own.2
    clear hcut L0 hv HV
    rcases HF.out with ⟨rfl, h0⟩ | ⟨g, cap, cur, rfl, hge, hh, hle, hmax, _, _⟩
    · obtain rfl : M = [] := List.eq_nil_of_length_eq_zero h0
      clear HF h0
      go_wp2_with fail
      refine (range_any W b _ _ _ HC.out.src (by omega) (by omega) (by omega) (by omega)).mono ?_
      rintro e w1 ⟨x, -, rfl, s1, g1⟩
      have S1 := Lib.hid (HC.out.step s1 g1)
      clear s1 g1 HC
      go_wp2_with fail
      refine (n_any W b _ _ S1.out.src (by omega) (by omega)).mono ?_
      rintro e w2 ⟨y, -, rfl, s2, g2⟩
      have S2 := Lib.hid (S1.out.step s2 g2)
      have S3 := Lib.hid (S2.out.under ((Below.refl _ _).alloc (Nat.le_refl _) (.cells #[.int .i64 x, .int .i64 y] 47)))
      clear s2 g2 S1 S2
      go_wp2_with (at_builtin; go_loud (refine wpList_append_lies _ rfl (.tmp 13) (.tmp 19) 22 rfl w.heap.size 47 i0 _ 2 16 Tryd.underlying22 hi hz0 hz1 hz2 rfl (by decide) _ ([] : List Elt.R).length (rdc []) rfl S3.out.own ⟨w2.heap.size, 0, none⟩ 1 1 [.int .i64 x, .int .i64 y] rfl rfl (World.news_of_block (cs := #[.int .i64 x, .int .i64 y]) (t := 47) (fr := (0, 0)) (heap_alloc_new w2 _)) (by simp [Value.oneCell']) (by omega) (by decide) (by decide) S3.out.gro.size (w2.heap.size + 1) (by simp) ?_; intro g' cap' w4 hown4 hgrow4 hat4 hlt4; have S4 := Lib.hid (S3.out.more (x := (x, y)) hW hown4 hgrow4); clear hown4 hgrow4 hat4 hlt4))
      go_ret
      exact ⟨_, [(x, y)], rfl, by simp, S4.out⟩
    · clear HF hh
      by_cases hM0 : M.length = 0
      · obtain rfl : M = [] := List.eq_nil_of_length_eq_zero hM0
        clear hM0
        go_wp2_with fail
        refine (range_any W b _ _ _ HC.out.src (by omega) (by omega) (by omega) (by omega)).mono ?_
        rintro e w1 ⟨x, -, rfl, s1, g1⟩
        have S1 := Lib.hid (HC.out.step s1 g1)
        clear s1 g1 HC
        go_wp2_with fail
        refine (n_any W b _ _ S1.out.src (by omega) (by omega)).mono ?_
        rintro e w2 ⟨y, -, rfl, s2, g2⟩
        have S2 := Lib.hid (S1.out.step s2 g2)
        have S3 := Lib.hid (S2.out.under ((Below.refl _ _).alloc (Nat.le_refl _) (.cells #[.int .i64 x, .int .i64 y] 47)))
        clear s2 g2 S1 S2
        go_wp2_with (at_builtin; go_loud (refine wpList_append_lies _ rfl (.tmp 13) (.tmp 19) 22 rfl w.heap.size 47 i0 _ 2 16 Tryd.underlying22 hi hz0 hz1 hz2 rfl (by decide) _ ([] : List Elt.R).length (rdc []) rfl S3.out.own ⟨w2.heap.size, 0, none⟩ 1 1 [.int .i64 x, .int .i64 y] rfl rfl (World.news_of_block (cs := #[.int .i64 x, .int .i64 y]) (t := 47) (fr := (0, 0)) (heap_alloc_new w2 _)) (by simp [Value.oneCell']) (by omega) (by decide) (by decide) S3.out.gro.size (w2.heap.size + 1) (by simp) ?_; intro g' cap' w4 hown4 hgrow4 hat4 hlt4; have S4 := Lib.hid (S3.out.more (x := (x, y)) hW hown4 hgrow4); clear hown4 hgrow4 hat4 hlt4))
        go_ret
        exact ⟨_, [(x, y)], rfl, by simp, S4.out⟩
      · have q0 : ((M.length : Int) == 0) = false := beq_eq_false_iff_ne.2 (by omega)
        have m1 : (1 : Int) ≤ (M.length : Int) := by omega
        clear hM0
        go_wp2_with fail
        refine (n_any W b _ _ HC.out.src (by omega) (by omega)).mono ?_
        rintro e w1 ⟨i, ⟨i1, i2⟩, rfl, s1, g1⟩
        have S1 := Lib.hid (HC.out.step s1 g1)
        clear s1 g1 HC q0
        obtain ⟨i, rfl⟩ := Int.eq_ofNat_of_zero_le i1
        have hiM : i < M.length := by omega
        go_wp2_with fail
        refine (n_any W b _ _ S1.out.src (by omega) (by omega)).mono ?_
        rintro e w2 ⟨q, ⟨q1, q2⟩, rfl, s2, g2⟩
        have S2 := Lib.hid (S1.out.step s2 g2)
        clear s2 g2 S1
        rcases (by omega : q = 0 ∨ q = 1 ∨ q = 2 ∨ q = 3) with rfl | rfl | rfl | rfl
        · clear q1 q2
          go_wp2_with fail
          refine (range_any W b _ _ _ S2.out.src (by omega) (by omega) (by omega) (by omega)).mono ?_
          rintro e w3 ⟨x, -, rfl, s3, g3⟩
          have S3 := Lib.hid (S2.out.step s3 g3)
          have c0 := (S3.out.own.cellAt (i * 2) (by omega)).trans (rdc_at M i hiM).1
          have f0 := S3.out.own.frozenAt (i * 2)
          have HP := Lib.hid (S3.out.put rfl hW (i * 2) (by omega) x)
          clear s3 g3 S2
          go_wp2_with fail
          go_ret
          obtain ⟨N, hN, hS⟩ := HP.out
          exact ⟨_, N, rfl, by omega, hS⟩
        · clear q1 q2
          have hbl : b < w2.heap.size := by
            obtain ⟨cs, hr⟩ := src_row S2.out.src
            exact (Array.getElem?_eq_some_iff.1 hr).1
          have S3 := Lib.hid (S2.out.under ((Below.refl _ _).alloc (Nat.le_refl _) (.cells #[.int .i64 (-1001), .int .i64 (-1000), .int .i64 0, .int .i64 1000, .int .i64 1001, .int .i64 11000, .int .i64 11001] 3)))
          have R3 := Lib.hid (Row.new w2 #[.int .i64 (-1001), .int .i64 (-1000), .int .i64 0, .int .i64 1000, .int .i64 1001, .int .i64 11000, .int .i64 11001] 3)
          have PK := Lib.hid (pick_any (fun _ => True) W b _ w2.heap.size 7 7 S3.out.src (by omega) (by omega) (by omega) R3.out.lt (fun j hj => by
            rcases (by omega : j = 0 ∨ j = 1 ∨ j = 2 ∨ j = 3 ∨ j = 4 ∨ j = 5 ∨ j = 6) with rfl | rfl | rfl | rfl | rfl | rfl | rfl
            · exact ⟨_, (R3.out.cell 0).trans rfl, trivial⟩
            · exact ⟨_, (R3.out.cell 1).trans rfl, trivial⟩
            · exact ⟨_, (R3.out.cell 2).trans rfl, trivial⟩
            · exact ⟨_, (R3.out.cell 3).trans rfl, trivial⟩
            · exact ⟨_, (R3.out.cell 4).trans rfl, trivial⟩
            · exact ⟨_, (R3.out.cell 5).trans rfl, trivial⟩
            · exact ⟨_, (R3.out.cell 6).trans rfl, trivial⟩))
          clear S2 R3 hbl
          go_wp2_with fail
          refine PK.out.mono ?_
          rintro e w3 ⟨x, -, rfl, s3, g3⟩
          have S4 := Lib.hid (S3.out.step s3 g3)
          have c0 := (S4.out.own.cellAt (i * 2 + 1) (by omega)).trans (rdc_at M i hiM).2
          have f0 := S4.out.own.frozenAt (i * 2 + 1)
          have HP := Lib.hid (S4.out.put rfl hW (i * 2 + 1) (by omega) x)
          clear s3 g3 S3 PK
          go_wp2_with fail
          go_ret
          obtain ⟨N, hN, hS⟩ := HP.out
          exact ⟨_, N, rfl, by omega, hS⟩
        · clear q1 q2
          have c0 := (S2.out.own.cellAt (i * 2) (by omega)).trans (rdc_at M i hiM).1
          have c1 := (S2.out.own.cellAt (i * 2 + 1) (by omega)).trans (rdc_at M i hiM).2
          generalize M[i] = z at *
          obtain ⟨x, y⟩ := z
          simp only at c0 c1
          have S3 := Lib.hid (S2.out.under ((Below.refl _ _).alloc (Nat.le_refl _) (.cells #[.int .i64 x, .int .i64 y] 47)))
          clear S2
          go_wp2_with (at_builtin; go_loud (refine wpList_append_lies _ rfl (.tmp 58) (.tmp 63) 22 rfl w.heap.size 47 i0 _ 2 16 Tryd.underlying22 hi hz0 hz1 hz2 rfl (by decide) _ M.length (rdc M) rfl S3.out.own ⟨w2.heap.size, 0, none⟩ 1 1 [.int .i64 x, .int .i64 y] rfl rfl (World.news_of_block (cs := #[.int .i64 x, .int .i64 y]) (t := 47) (fr := (0, 0)) (heap_alloc_new w2 _)) (by simp [Value.oneCell']) (by omega) (by unfold maxLen; omega) (by omega) S3.out.gro.size (w2.heap.size + 1) (by simp) ?_; intro g' cap' w4 hown4 hgrow4 hat4 hlt4; have S4 := Lib.hid (S3.out.more (x := (x, y)) hW hown4 hgrow4); clear hown4 hgrow4 hat4 hlt4))
          go_ret
          exact ⟨_, M ++ [(x, y)], rfl, by simp; omega, S4.out⟩
        · clear q1 q2
          have hp0 : 0 < M.length := by omega
          have c0 := (S2.out.own.cellAt (i * 2) (by omega)).trans (rdc_at M i hiM).1
          have c1 := (S2.out.own.cellAt (i * 2 + 1) (by omega)).trans (rdc_at M i hiM).2
          have d0 := (S2.out.own.cellAt 0 (by omega)).trans (rdc_at M 0 hp0).1
          have d1 := (S2.out.own.cellAt 1 (by omega)).trans (rdc_at M 0 hp0).2
          have f0 := S2.out.own.frozenAt (i * 2)
          have f1 := S2.out.own.frozenAt (i * 2 + 1)
          have f2 := S2.out.own.frozenAt 0
          have f3 := S2.out.own.frozenAt 1
          generalize M[i] = z at *
          obtain ⟨x, y⟩ := z
          generalize M[0] = z at *
          obtain ⟨x', y'⟩ := z
          simp only at c0 c1 d0 d1
          go_upto_region 6 with fail
          refine wp_region_held_drew (S := fun _ : World => True) (by kernel_rfl) trivial (fun hHeld => ?_)
          refine wpAnyH_take (i := 0) (oi := ⟨some 27, _, _, _, _, none⟩) (v := ?_) rfl (by kernel_rfl) (by kernel_rfl) (by kernel_rfl) (fun _ _ _ h => h) (Or.inl ⟨by rfl, ?_⟩) (by assumption) ?_
          case refine_2 => (intro wx hSx; (try dsimp only at hSx); go_simp; first | done | with_reducible rfl)
          try simp only [Act.put, List.setIfInBounds_toArray, List.set_cons_zero, List.set_cons_succ]
          refine wpAnyH_take (i := 1) (oi := ⟨some 28, _, _, _, _, none⟩) (v := ?_) rfl (by kernel_rfl) (by kernel_rfl) (by kernel_rfl) (fun _ _ _ h => h) (Or.inl ⟨by rfl, ?_⟩) (by assumption) ?_
          case refine_2 => (intro wx hSx; (try dsimp only at hSx); go_simp; first | done | with_reducible rfl)
          try simp only [Act.put, List.setIfInBounds_toArray, List.set_cons_zero, List.set_cons_succ]
          refine wpAnyH_take (i := 2) (oi := ⟨some 29, _, _, _, _, none⟩) (v := ?_) rfl (by kernel_rfl) (by kernel_rfl) (by kernel_rfl) (fun _ _ _ h => h) (Or.inl ⟨by rfl, ?_⟩) (by assumption) ?_
          case refine_2 => (intro wx hSx; (try dsimp only at hSx); go_simp; first | done | with_reducible rfl)
          try simp only [Act.put, List.setIfInBounds_toArray, List.set_cons_zero, List.set_cons_succ]
          refine wpAnyH_take (i := 3) (oi := ⟨some 30, _, _, _, _, none⟩) (v := ?_) rfl (by kernel_rfl) (by kernel_rfl) (by kernel_rfl) (fun _ _ _ h => h) (Or.inl ⟨by rfl, ?_⟩) (by assumption) ?_
          case refine_2 => (intro wx hSx; (try dsimp only at hSx); go_simp; first | done | with_reducible rfl)
          try simp only [Act.put, List.setIfInBounds_toArray, List.set_cons_zero, List.set_cons_succ]
          refine wpAnyH_take (i := 4) (oi := ⟨some 31, _, _, _, _, none⟩) (v := ?_) rfl (by kernel_rfl) (by kernel_rfl) (by kernel_rfl) (fun _ _ _ h => h) (Or.inl ⟨by rfl, ?_⟩) (by assumption) ?_
          case refine_2 => (intro wx hSx; (try dsimp only at hSx); go_simp; first | done | with_reducible rfl)
          try simp only [Act.put, List.setIfInBounds_toArray, List.set_cons_zero, List.set_cons_succ]
          refine wpAnyH_take (i := 6) (oi := ⟨some 33, _, _, _, _, none⟩) (v := ?_) rfl (by kernel_rfl) (by kernel_rfl) (by kernel_rfl) (fun _ _ _ h => h) (Or.inl ⟨by rfl, ?_⟩) (by assumption) ?_
          case refine_2 => (intro wx hSx; (try dsimp only at hSx); go_simp; first | done | with_reducible rfl)
          try simp only [Act.put, List.setIfInBounds_toArray, List.set_cons_zero, List.set_cons_succ]
          refine wpAnyH_take (i := 7) (oi := ⟨some 34, _, _, _, _, none⟩) (v := ?_) rfl (by kernel_rfl) (by kernel_rfl) (by kernel_rfl) (fun _ _ _ h => h) (Or.inl ⟨by rfl, ?_⟩) (by assumption) ?_
          case refine_2 => (intro wx hSx; (try dsimp only at hSx); go_simp; first | done | with_reducible rfl)
          try simp only [Act.put, List.setIfInBounds_toArray, List.set_cons_zero, List.set_cons_succ]
          refine wpAnyH_take (i := 8) (oi := ⟨some 35, _, _, _, _, none⟩) (v := ?_) rfl (by kernel_rfl) (by kernel_rfl) (by kernel_rfl) (fun _ _ _ h => h) (Or.inl ⟨by rfl, ?_⟩) (by assumption) ?_
          case refine_2 => (intro wx hSx; (try dsimp only at hSx); go_simp; first | done | with_reducible rfl)
          try simp only [Act.put, List.setIfInBounds_toArray, List.set_cons_zero, List.set_cons_succ]
          refine wpAnyH_ready (rs := [5, 9]) (by kernel_rfl) (by simp) ?_
          refine AllReadyH.cons (o := ⟨some 32, _, _, _, _, none⟩) rfl (fun K hK => ?_) (AllReadyH.cons (o := ⟨some 36, _, _, _, _, none⟩) rfl (fun K hK => ?_) AllReadyH.nil)
          · go_simp
            refine hK.out _ _ trivial (fun _ => ?_)
            clear hK K
            try simp only [Act.put, List.setIfInBounds_toArray, List.set_cons_zero, List.set_cons_succ]
            refine wpAnyH_ready (rs := [9]) (by kernel_rfl) (by simp) ?_
            refine AllReadyH.cons (o := ⟨some 36, _, _, _, _, none⟩) rfl (fun K hK => ?_) AllReadyH.nil
            go_simp
            refine hK.out _ _ trivial (fun _ => ?_)
            clear hK K
            try simp only [Act.put, List.setIfInBounds_toArray, List.set_cons_zero, List.set_cons_succ]
            clear d0 d1 f2 f3
            refine wpAnyH_take (i := 10) (oi := ⟨some 37, _, _, _, _, none⟩) (v := ?_) rfl (by kernel_rfl) (by kernel_rfl) (by kernel_rfl) (fun _ _ _ h => h) (Or.inl ⟨by rfl, ?_⟩) (by assumption) ?_
            case refine_2 => (intro wx hSx; (try dsimp only at hSx); go_simp; first | done | with_reducible rfl)
            try simp only [Act.put, List.setIfInBounds_toArray, List.set_cons_zero, List.set_cons_succ]
            refine wpAnyH_ready (rs := [11]) (by kernel_rfl) (by simp) ?_
            refine AllReadyH.cons (o := ⟨none, _, _, _, _, none⟩) rfl (fun K hK => ?_) AllReadyH.nil
            obtain ⟨N1, n1, S3⟩ := S2.out.put rfl hW (i * 2) (by omega) x'
            have iN : i < N1.length := by omega
            have o3 := S3.own
            rw [n1] at o3
            have a1 := (o3.cellAt (i * 2 + 1) (by omega)).trans (rdc_at N1 i iN).2
            have a2 := o3.frozenAt (i * 2 + 1)
            clear o3
            obtain ⟨N2, n2, S4⟩ := S3.put (by rw [n1]) hW (i * 2 + 1) (by omega) y'
            have H4 := Lib.hid S4
            have HN := Lib.hid (n2.trans n1)
            clear S3 S4 n1 n2
            go_simp
            refine hK.out _ _ trivial (fun _ => ?_)
            clear hK K f0 f1 c0 c1 a1 a2 iN
            try simp only [Act.put, List.setIfInBounds_toArray, List.set_cons_zero, List.set_cons_succ]
            refine genH (fun X => ∃ N : List Elt.R, N.length = M.length ∧ Gl W b w N (.slice (some ⟨g, 0, none⟩) M.length cap) X) ⟨N2, HN.out, H4.out.under ⟨rfl, rfl, rfl, Nat.le_refl _, fun _ _ => rfl⟩⟩ ?_
            clear H4 HN S2
            rintro X ⟨N, hN, hS⟩
            have HN := Lib.hid hN
            have S2 := Lib.hid hS
            clear hN hS
            refine wpAnyH_take (i := 12) (oi := ⟨some 38, _, _, _, _, none⟩) (v := ?_) rfl (by kernel_rfl) (by kernel_rfl) (by kernel_rfl) (fun _ _ _ h => h) (Or.inl ⟨by rfl, ?_⟩) (by assumption) ?_
            case refine_2 => (intro wx hSx; (try dsimp only at hSx); go_simp; first | done | with_reducible rfl)
            try simp only [Act.put, List.setIfInBounds_toArray, List.set_cons_zero, List.set_cons_succ]
            refine wpAnyH_ready (rs := [13]) (by kernel_rfl) (by simp) ?_
            refine AllReadyH.cons (o := ⟨none, _, _, _, _, none⟩) rfl (fun K hK => ?_) AllReadyH.nil
            have hp1 : 0 < N.length := by have := HN.out; omega
            have o3 := S2.out.own
            rw [HN.out] at o3
            have c0 := (o3.cellAt 0 (by omega)).trans (rdc_at N 0 hp1).1
            have c1 := (o3.cellAt 1 (by omega)).trans (rdc_at N 0 hp1).2
            have f0 := o3.frozenAt 0
            have f1 := o3.frozenAt 1
            clear o3
            obtain ⟨N1, n1, S3⟩ := S2.out.put HN.out.symm hW 0 (by omega) x
            have iN : 0 < N1.length := by have := HN.out; omega
            have o3 := S3.own
            rw [n1.trans HN.out] at o3
            have a1 := (o3.cellAt 1 (by omega)).trans (rdc_at N1 0 iN).2
            have a2 := o3.frozenAt 1
            clear o3
            obtain ⟨N2, n2, S4⟩ := S3.put (by rw [n1]; exact HN.out.symm) hW 1 (by omega) y
            have H4 := Lib.hid S4
            have HL2 := Lib.hid (n2.trans (n1.trans HN.out))
            clear S3 S4 n1 n2
            go_simp
            refine hK.out _ _ trivial (fun _ => ?_)
            clear hK K f0 f1 c0 c1 a1 a2 iN
            try simp only [Act.put, List.setIfInBounds_toArray, List.set_cons_zero, List.set_cons_succ]
            refine genH (fun X => ∃ N : List Elt.R, N.length = M.length ∧ Gl W b w N (.slice (some ⟨g, 0, none⟩) M.length cap) X) ⟨N2, HL2.out, H4.out⟩ ?_
            clear H4 HL2 S2 hp1
            rintro X ⟨N, hN, hS⟩
            have HN := Lib.hid hN
            have S2 := Lib.hid hS
            clear hN hS
            refine wpAnyH_done (by kernel_rfl) ?_ _
            go_wp2_with fail
            go_ret
            exact ⟨_, _, rfl, by have := HN.out; omega, S2.out⟩
          · go_simp
            refine hK.out _ _ trivial (fun _ => ?_)
            clear hK K
            try simp only [Act.put, List.setIfInBounds_toArray, List.set_cons_zero, List.set_cons_succ]
            refine wpAnyH_ready (rs := [5]) (by kernel_rfl) (by simp) ?_
            refine AllReadyH.cons (o := ⟨some 32, _, _, _, _, none⟩) rfl (fun K hK => ?_) AllReadyH.nil
            go_simp
            refine hK.out _ _ trivial (fun _ => ?_)
            clear hK K
            try simp only [Act.put, List.setIfInBounds_toArray, List.set_cons_zero, List.set_cons_succ]
            clear d0 d1 f2 f3
            refine wpAnyH_take (i := 10) (oi := ⟨some 37, _, _, _, _, none⟩) (v := ?_) rfl (by kernel_rfl) (by kernel_rfl) (by kernel_rfl) (fun _ _ _ h => h) (Or.inl ⟨by rfl, ?_⟩) (by assumption) ?_
            case refine_2 => (intro wx hSx; (try dsimp only at hSx); go_simp; first | done | with_reducible rfl)
            try simp only [Act.put, List.setIfInBounds_toArray, List.set_cons_zero, List.set_cons_succ]
            refine wpAnyH_ready (rs := [11]) (by kernel_rfl) (by simp) ?_
            refine AllReadyH.cons (o := ⟨none, _, _, _, _, none⟩) rfl (fun K hK => ?_) AllReadyH.nil
            obtain ⟨N1, n1, S3⟩ := S2.out.put rfl hW (i * 2) (by omega) x'
            have iN : i < N1.length := by omega
            have o3 := S3.own
            rw [n1] at o3
            have a1 := (o3.cellAt (i * 2 + 1) (by omega)).trans (rdc_at N1 i iN).2
            have a2 := o3.frozenAt (i * 2 + 1)
            clear o3
            obtain ⟨N2, n2, S4⟩ := S3.put (by rw [n1]) hW (i * 2 + 1) (by omega) y'
            have H4 := Lib.hid S4
            have HN := Lib.hid (n2.trans n1)
            clear S3 S4 n1 n2
            go_simp
            refine hK.out _ _ trivial (fun _ => ?_)
            clear hK K f0 f1 c0 c1 a1 a2 iN
            try simp only [Act.put, List.setIfInBounds_toArray, List.set_cons_zero, List.set_cons_succ]
            refine genH (fun X => ∃ N : List Elt.R, N.length = M.length ∧ Gl W b w N (.slice (some ⟨g, 0, none⟩) M.length cap) X) ⟨N2, HN.out, H4.out.under ⟨rfl, rfl, rfl, Nat.le_refl _, fun _ _ => rfl⟩⟩ ?_
            clear H4 HN S2
            rintro X ⟨N, hN, hS⟩
            have HN := Lib.hid hN
            have S2 := Lib.hid hS
            clear hN hS
            refine wpAnyH_take (i := 12) (oi := ⟨some 38, _, _, _, _, none⟩) (v := ?_) rfl (by kernel_rfl) (by kernel_rfl) (by kernel_rfl) (fun _ _ _ h => h) (Or.inl ⟨by rfl, ?_⟩) (by assumption) ?_
            case refine_2 => (intro wx hSx; (try dsimp only at hSx); go_simp; first | done | with_reducible rfl)
            try simp only [Act.put, List.setIfInBounds_toArray, List.set_cons_zero, List.set_cons_succ]
            refine wpAnyH_ready (rs := [13]) (by kernel_rfl) (by simp) ?_
            refine AllReadyH.cons (o := ⟨none, _, _, _, _, none⟩) rfl (fun K hK => ?_) AllReadyH.nil
            have hp1 : 0 < N.length := by have := HN.out; omega
            have o3 := S2.out.own
            rw [HN.out] at o3
            have c0 := (o3.cellAt 0 (by omega)).trans (rdc_at N 0 hp1).1
            have c1 := (o3.cellAt 1 (by omega)).trans (rdc_at N 0 hp1).2
            have f0 := o3.frozenAt 0
            have f1 := o3.frozenAt 1
            clear o3
            obtain ⟨N1, n1, S3⟩ := S2.out.put HN.out.symm hW 0 (by omega) x
            have iN : 0 < N1.length := by have := HN.out; omega
            have o3 := S3.own
            rw [n1.trans HN.out] at o3
            have a1 := (o3.cellAt 1 (by omega)).trans (rdc_at N1 0 iN).2
            have a2 := o3.frozenAt 1
            clear o3
            obtain ⟨N2, n2, S4⟩ := S3.put (by rw [n1]; exact HN.out.symm) hW 1 (by omega) y
            have H4 := Lib.hid S4
            have HL2 := Lib.hid (n2.trans (n1.trans HN.out))
            clear S3 S4 n1 n2
            go_simp
            refine hK.out _ _ trivial (fun _ => ?_)
            clear hK K f0 f1 c0 c1 a1 a2 iN
            try simp only [Act.put, List.setIfInBounds_toArray, List.set_cons_zero, List.set_cons_succ]
            refine genH (fun X => ∃ N : List Elt.R, N.length = M.length ∧ Gl W b w N (.slice (some ⟨g, 0, none⟩) M.length cap) X) ⟨N2, HL2.out, H4.out⟩ ?_
            clear H4 HL2 S2 hp1
            rintro X ⟨N, hN, hS⟩
            have HN := Lib.hid hN
            have S2 := Lib.hid hS
            clear hN hS
            refine wpAnyH_done (by kernel_rfl) ?_ _
            go_wp2_with fail
            go_ret
            exact ⟨_, _, rfl, by have := HN.out; omega, S2.out⟩
end Go.Proofs.YthlcpmkjemdhkaaDoor
