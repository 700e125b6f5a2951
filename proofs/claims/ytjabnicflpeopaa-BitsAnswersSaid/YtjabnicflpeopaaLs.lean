/- The law's list of bits, valid in most cases. -/
import Derived.Test.YtjabnicflpeopaaTri
namespace Go.Proofs.Ytjabnicflpeopaa
open Go.RowKit

theorem grown_new {w Y : World} {r : Option Nat} (h : w.grownBy Y r) {g : Nat} (hg : w.heap.size ≤ g) (j : Nat) (u : Value) : w.grownBy (Y.setCell ⟨g, j, none⟩ u) r :=
  ⟨h.os, h.tape, h.output, by simp [World.setCell]; exact h.size, fun k hk hr => (Below.heap_setCell Y ⟨g, j, none⟩ u k (fun e => by
    have e : k = g := e
    omega)).trans (h.block k hk hr)⟩
theorem grown_other {w Y Z : World} {r : Option Nat} {g : Nat} (h : w.grownBy Y r) (hg : Y.grownBy Z (some g)) (hw : w.heap.size ≤ g) : w.grownBy Z r :=
  ⟨hg.os.trans h.os, hg.tape.trans h.tape, hg.output.trans h.output, Nat.le_trans h.size hg.size, fun k hk hr => (hg.block k (Nat.lt_of_lt_of_le hk h.size) (fun e => by injection e with e; omega)).trans (h.block k hk hr)⟩
/-- What is in memory when the list is made: the source, the result's box, the list's box with its bytes. -/
structure Lf (W : World) (b : Nat) (w : World) (g5 : Nat) (A : Option Addr) (c : Nat) (L : List Nat) (n : Int) (Y : World) : Prop where
  src : Src W b Y
  gro : w.grownBy Y (some b)
  r2 : Row Y w.heap.size 24 #[.slice none 0 0, .int .i64 0]
  box : Bx Y g5 A c L n
theorem Lf.read {W : World} {b : Nat} {w Y Y' : World} {g5 : Nat} {A : Option Addr} {c : Nat} {L : List Nat} {n : Int} (h : Lf W b w g5 A c L n Y) (hs : Src W b Y') (hg : Y.grownBy Y' (some b)) (h2 : w.heap.size ≠ b) (h5 : g5 ≠ b) : Lf W b w g5 A c L n Y' :=
  ⟨hs, grown_trans h.gro hg, h.r2.grown hg (fun e => h2 (by injection e)), h.box.read h5 h.src hg⟩
theorem own_read {w w' : World} {g b : Nat} {L : List Nat} (h : Own w g L) (hg : w.grownBy w' (some b)) (hb : g ≠ b) : Own w' g L := Row.grown h hg (fun e => hb (by injection e))
theorem own_row {w : World} {g base : Nat} {L : List Nat} (h : Own w g L) (hb : base ≤ g) (hl : L.length ≤ 1000000) : w.ownsRow base 5 1 (.slice (some ⟨g, 0, none⟩) L.length L.length) L.length (byc L) :=
  ⟨by rw [byc_len]; omega, .inr ⟨g, L.length, (byc L).toArray, rfl, hb, h, Nat.le_refl _, by unfold maxLen; omega, by simp [byc_len], by rw [Nat.mul_one, List.take_of_length_le (by simp [byc_len])]⟩⟩
/-- A byte more behind one's own bytes. -/
theorem append_byte (w : World) (g : Nat) (L : List Nat) (x : Nat) (ty : TypeId) (g2 : Nat) (h : Own w g L) (hx : Row w g2 5 #[.int .u8 (x : Int)]) (hl : L.length ≤ 1000) (hL : ∀ y ∈ L, y < 256) (hx2 : x < 256) :
    ∃ A c w', (Builtin.append_ #[22, 22] ty #[.slice (some ⟨g, 0, none⟩) L.length L.length, .slice (some ⟨g2, 0, none⟩) 1 1]).run Try.prog w = .ok (.slice A (L ++ [x]).length c) w' ∧ Bys w' A c (L ++ [x]) ∧ w.grownBy w' (some g) := by
  obtain ⟨v', w', hr, h2, h3, -⟩ := run_append_own (P := Try.prog) w g 22 ty 5 Try.t5 _ 1 1 Try.underlying22 u8I u8Z u8S u8B rfl (by decide) _ L.length (byc L) (own_row h (Nat.le_refl _) (by omega)) ⟨g2, 0, none⟩ 1 1 [.int .u8 (x : Int)] rfl (World.news_of_block (cs := #[.int .u8 (x : Int)]) (t := 5) (fr := (0, 0)) hx) (by simp [Value.oneCell']) (by unfold maxLen; omega) (by omega) (Nat.le_of_lt (Row.lt h))
  have e : byc L ++ [.int .u8 (x : Int)] = byc (L ++ [x]) := by simp [byc]
  rw [e] at h2
  obtain ⟨A, c, e2, hB⟩ := own_bys (L := L ++ [x]) (by rw [List.length_append, List.length_singleton]; exact h2) (fun y hy => by
    rcases List.mem_append.1 hy with q | q
    · exact hL y q
    · rw [List.mem_singleton.1 q]; exact hx2)
  subst e2
  exact ⟨A, c, w', hr, hB, h3⟩
def LR (W : World) (b : Nat) (w : World) (e : Ending) (w' : World) : Prop := ∃ A c L n, e = .returned (btV A c L n) ∧ Bys w' A c L ∧ Src W b w' ∧ w.grownBy w' (some b) ∧ L.length ≤ 6 ∧ -2 ≤ n ∧ n ≤ 42
set_option maxHeartbeats 8000000 in
set_option maxRecDepth 100000 in
theorem list_any (W : World) (b : Nat) (w : World) (h : Src W b w) :
    Calls Try.prog 10 #[.pointer (some ⟨b, 0, none⟩)] w (LR W b w) := by
  have G2 : Hid (w.heap.size ≠ b ∧ W.heap.size ≤ w.heap.size) := Lib.hid (by have := h.lt; have := h.below.size; omega)
  have T0 : Hid (Src W b (w.alloc (.cells #[.slice none 0 0, .int .i64 0] 24)) ∧ Row (w.alloc (.cells #[.slice none 0 0, .int .i64 0] 24)) w.heap.size 24 #[.slice none 0 0, .int .i64 0] ∧ w.grownBy (w.alloc (.cells #[.slice none 0 0, .int .i64 0] 24)) (some b)) := Lib.hid ⟨h.under ((Below.refl _ _).alloc (Nat.le_refl _) _), Row.new _ _ _, grown_below ((Below.refl _ _).alloc (Nat.le_refl _) _)⟩
  clear h
  go_enter Try.func10, Try.ntmps10
  go_upto_region 1 with fail
  refine forget (fun Y => Hid (Src W b Y ∧ Row Y w.heap.size 24 #[.slice none 0 0, .int .i64 0] ∧ w.grownBy Y (some b))) T0 ?_
  clear T0
  intro Y T0
  go_wp2_with fail
  refine (n_any W b _ 40 T0.out.1 (by decide) (by decide)).mono ?_
  rintro e Y0 ⟨k0, ⟨k1, k2⟩, rfl, hs0, hg0⟩
  have R0 := Lib.hid (show Row Y0 w.heap.size 24 #[.slice none 0 0, .int .i64 0] ∧ w.grownBy Y0 (some b) from ⟨T0.out.2.1.grown hg0 (fun e => G2.out.1 (by injection e)), grown_trans T0.out.2.2 hg0⟩)
  clear T0 hg0
  obtain ⟨n0, rfl⟩ := Int.eq_ofNat_of_zero_le k1
  have L0 : Hid (Lst W b Y0 (.slice none 0 0) [] Y0) := Lib.hid (Lst.start hs0)
  clear hs0
  have n1 : n0 ≤ 39 := by omega
  clear k1 k2
  go_wp2_with fail
  go_loopw [3, 4] (fun v t Y => ∃ (X : List Int) (j : Nat), t = .int .i64 j ∧ j + X.length ≤ 39 ∧ Hid (Lst W b Y0 v X Y)) (fun _ t _ => (intOf t).toNat)
  case atStart => exact ⟨[], n0, rfl, by simp; omega, L0⟩
  case round =>
    clear L0
    obtain ⟨X, j, rfl, hj, M⟩ := hrel
    by_cases hlt : 0 < j
    · have j1 : (0 : Int) < (j : Int) := by omega
      go_wp2_with fail
      refine (n_any W b _ 2 M.out.src (by decide) (by decide)).mono ?_
      rintro e w2 ⟨x, hx, rfl, hs2, hg2⟩
      have M2 := Lib.hid (M.out.read hs2 hg2)
      have S3 := Lib.hid (M2.out.alloc (.cells #[.int .i64 x] 3))
      have HX := Lib.hid hx
      clear hs2 hg2 M hx
      go_wp2_with (at_builtin; refine wpList_append_lies _ rfl (.tmp 12) (.tmp 15) 25 rfl Y0.heap.size 3 Try.t3 _ 1 8 Try.underlying25 intI intZ intS intB rfl (by decide) «u3» X.length (ic X) rfl S3.out.own ⟨w2.heap.size, 0, none⟩ 1 1 [.int .i64 x] rfl rfl (World.news_of_block (cs := #[.int .i64 x]) (t := 3) (fr := (0, 0)) (heap_alloc_new w2 _)) (by simp [Value.oneCell']) (by omega) (by unfold maxLen; omega) (by omega) S3.out.gro.size (w2.heap.size + 1) (by simp) ?_; intro g' cap' w4 hown4 hgrow4 hat4 hlt4; have S4 := Lib.hid (S3.out.more HX.out hown4 hgrow4); clear hown4 hgrow4 hat4 hlt4)
      go_roundw
      case rel => exact ⟨X ++ [x], j - 1, by go_num, by rw [List.length_append, List.length_singleton]; omega, S4⟩
      case measure => simp [intOf]; omega
    · have j1 : ¬ (0 : Int) < (j : Int) := by omega
      have hXl : X.length ≤ 39 := by omega
      obtain ⟨A, c, e, HI⟩ := OwnI.ins M.out.own
      subst e
      have R1 := Lib.hid (show Row wr w.heap.size 24 #[.slice none 0 0, .int .i64 0] ∧ w.grownBy wr (some b) ∧ Src W b wr from ⟨R0.out.1.grown M.out.gro (fun e => G2.out.1 (by injection e)), grown_trans R0.out.2 M.out.gro, M.out.src⟩)
      have HI2 := Lib.hid HI
      clear HI M hlt R0
      go_wp2_with fail
      refine (refOf_own wr A c X HI2.out (by omega)).mono ?_
      rintro e w3 ⟨gb, rfl, hO, hgb, hb⟩
      have N5 : Hid (gb ≠ b ∧ gb ≠ w.heap.size ∧ gb ≠ w3.heap.size ∧ w3.heap.size ≠ b ∧ w3.heap.size ≠ w.heap.size ∧ w.heap.size ≤ w3.heap.size ∧ w.heap.size ≤ gb ∧ W.heap.size ≤ gb ∧ W.heap.size ≤ w3.heap.size) := Lib.hid (by have := R1.out.1.lt; have := R1.out.2.2.lt; have := Row.lt hO; have := G2.out.2; have := hb.size; omega)
      have hPl : (pack X.length (isb X)).length ≤ 5 := by rw [pack_len]; omega
      have HPb := Lib.hid (pack_pk X.length (isb X)).byte
      have F3 : Hid (Lf W b w w3.heap.size (some ⟨gb, 0, none⟩) (pack X.length (isb X)).length (pack X.length (isb X)) X.length (w3.alloc (.cells #[.slice (some ⟨gb, 0, none⟩) (pack X.length (isb X)).length (pack X.length (isb X)).length, .int .i64 (X.length : Int)] 24)) ∧ Own (w3.alloc (.cells #[.slice (some ⟨gb, 0, none⟩) (pack X.length (isb X)).length (pack X.length (isb X)).length, .int .i64 (X.length : Int)] 24)) gb (pack X.length (isb X))) :=
        Lib.hid ⟨⟨(R1.out.2.2.under hb).under ((Below.refl _ _).alloc (Nat.le_refl _) _), grown_trans (grown_trans R1.out.2.1 (grown_below hb)) (grown_below ((Below.refl _ _).alloc (Nat.le_refl _) _)), (R1.out.1.under hb).alloc _, Bx.new (Own.bys hO HPb.out (by omega))⟩, Row.alloc hO _⟩
      clear hO hgb hb R1 HI2
      go_upto_region 7 with fail
      refine forget (fun Y => Hid (Lf W b w w3.heap.size (some ⟨gb, 0, none⟩) (pack X.length (isb X)).length (pack X.length (isb X)) X.length Y ∧ Own Y gb (pack X.length (isb X)))) F3 ?_
      clear F3
      generalize pack X.length (isb X) = L at HPb hPl ⊢
      generalize w3.heap.size = g5 at N5 ⊢
      intro Y5 F5
      go_wp2_with fail
      refine (n_any W b _ 9 F5.out.1.src (by decide) (by decide)).mono ?_
      rintro e Y6 ⟨q, ⟨qa, qb⟩, rfl, hs6, hg6⟩
      have F6 := Lib.hid (show Lf W b w g5 (some ⟨gb, 0, none⟩) L.length L X.length Y6 ∧ Own Y6 gb L from ⟨F5.out.1.read hs6 hg6 G2.out.1 N5.out.2.2.2.1, own_read F5.out.2 hg6 N5.out.1⟩)
      clear F5 hs6 hg6
      by_cases q0 : q = 0
      · subst q0
        go_upto_region 9 with fail
        refine wp_region_held_drew (S := fun _ : World => True) (by kernel_rfl) trivial (fun hHeld => ?_)
        refine wpAnyH_take (i := 0) (oi := ⟨some 23, _, _, _, _, none⟩) (v := ?_) rfl (by kernel_rfl) (by kernel_rfl) (by kernel_rfl) (fun _ _ _ h => h) (Or.inl ⟨by rfl, ?_⟩) (by assumption) ?_
        case refine_2 => (intro wx hSx; (try dsimp only at hSx); go_simp; first | done | with_reducible rfl)
        try simp only [Act.put, List.setIfInBounds_toArray, List.set_cons_zero, List.set_cons_succ]
        refine wpAnyH_take (i := 2) (oi := ⟨some 25, _, _, _, _, none⟩) (v := ?_) rfl (by kernel_rfl) (by kernel_rfl) (by kernel_rfl) (fun _ _ _ h => h) (Or.inl ⟨by rfl, ?_⟩) (by assumption) ?_
        case refine_2 => (intro wx hSx; (try dsimp only at hSx); go_simp; first | done | with_reducible rfl)
        try simp only [Act.put, List.setIfInBounds_toArray, List.set_cons_zero, List.set_cons_succ]
        have F7 : Hid (Lf W b w g5 (some ⟨gb, 0, none⟩) L.length L X.length Y6.drew ∧ Own Y6.drew gb L) := Lib.hid ⟨⟨F6.out.1.src.under (below_drewN (Below.refl _ _) 1), grown_trans F6.out.1.gro (grown_below (below_drewN (Below.refl Y6.heap.size _) 1)), F6.out.1.r2.drew, F6.out.1.box.under (below_drewN (Below.refl _ _) 1)⟩, Row.drew F6.out.2⟩
        clear F6
        generalize Y6.drew = Y7 at F7 hHeld ⊢
        refine wpAnyH_ready (rs := [1, 3]) (by kernel_rfl) (by simp) ?_
        refine (AllReadyH.cons (o := ⟨some 24, _, _, _, _, none⟩) rfl (fun Kx hK => ?_) (AllReadyH.cons (o := ⟨some 26, _, _, _, _, none⟩) rfl (fun Kx hK => ?_) AllReadyH.nil))
        · obtain ⟨p0, p1⟩ := row2 F7.out.1.box.1
          go_simp
          refine hK.out _ _ trivial (fun hHeld => ?_)
          clear p0 p1
          clear hK Kx
          try simp only [Act.put, List.setIfInBounds_toArray, List.set_cons_zero, List.set_cons_succ]
          refine wpAnyH_ready (rs := [3]) (by kernel_rfl) (by simp) ?_
          refine (AllReadyH.cons (o := ⟨some 26, _, _, _, _, none⟩) rfl (fun Kx hK => ?_) AllReadyH.nil)
          go_simp
          refine (range_any W b _ (-2) 2 F7.out.1.src (by decide) (by decide) (by decide) (by decide)).mono ?_
          rintro e Y8 ⟨x, ⟨xa, xb⟩, rfl, hs8, hg8⟩
          have F8 := Lib.hid (show Lf W b w g5 (some ⟨gb, 0, none⟩) L.length L X.length Y8 ∧ Own Y8 gb L from ⟨F7.out.1.read hs8 hg8 G2.out.1 N5.out.2.2.2.1, own_read F7.out.2 hg8 N5.out.1⟩)
          clear F7 hs8 hg8
          go_wp2_with fail
          refine hK.out _ _ trivial (fun hHeld => ?_)
          clear hK Kx
          try simp only [Act.put, List.setIfInBounds_toArray, List.set_cons_zero, List.set_cons_succ]
          have x1 : IntKind.i64.wrap ((X.length : Int) + x) = (X.length : Int) + x := IntWalk.i64_in _ ⟨by omega, by omega⟩
          refine wpAnyH_take (i := 4) (oi := ⟨some 27, _, _, _, _, none⟩) (v := ?_) rfl (by kernel_rfl) (by kernel_rfl) (by kernel_rfl) (fun _ _ _ h => h) (Or.inl ⟨by rfl, ?_⟩) (by assumption) ?_
          case refine_2 => (intro wx hSx; (try dsimp only at hSx); go_simp; first | done | with_reducible rfl)
          try simp only [Act.put, List.setIfInBounds_toArray, List.set_cons_zero, List.set_cons_succ]
          refine wpAnyH_take (i := 5) (oi := ⟨some 28, _, _, _, _, none⟩) (v := ?_) rfl (by kernel_rfl) (by kernel_rfl) (by kernel_rfl) (fun _ _ _ h => h) (Or.inl ⟨by rfl, ?_⟩) (by assumption) ?_
          case refine_2 => (intro wx hSx; (try dsimp only at hSx); go_simp; first | done | with_reducible rfl)
          try simp only [Act.put, List.setIfInBounds_toArray, List.set_cons_zero, List.set_cons_succ]
          clear x1
          obtain ⟨p0, p1⟩ := row2 F8.out.1.box.1
          have f1 := F8.out.1.box.1.thaw 1
          refine wpAnyH_ready (rs := [6]) (by kernel_rfl) (by simp) ?_
          refine (AllReadyH.cons rfl (fun Kx hK => ?_) AllReadyH.nil)
          go_simp
          have F9 : Hid (Lf W b w g5 (some ⟨gb, 0, none⟩) L.length L ((X.length : Int) + x) (Y8.setCell ⟨g5, 1, none⟩ (.int .i64 ((X.length : Int) + x)))) := Lib.hid ⟨Src.grown F8.out.1.src (grown_set0 _ _ _ _) (fun g e => by injection e with e; subst e; exact ⟨N5.out.2.2.2.2.2.2.2.2, N5.out.2.2.2.1⟩), grown_new F8.out.1.gro N5.out.2.2.2.2.2.1 1 _, F8.out.1.r2.far (p := ⟨g5, 1, none⟩) N5.out.2.2.2.2.1 _, Row.put F8.out.1.box.1 1 _, F8.out.1.box.2.far F8.out.1.box.1⟩
          clear F8 p0 p1 f1
          refine hK.out _ _ trivial (fun hHeld2 => ?_)
          clear hHeld hHeld2
          clear hK Kx
          try simp only [Act.put, List.setIfInBounds_toArray, List.set_cons_zero, List.set_cons_succ]
          refine wpAnyH_done (by kernel_rfl) ?_ _
          generalize Y8.setCell ⟨g5, 1, none⟩ (.int .i64 ((X.length : Int) + x)) = Y9 at F9 ⊢
          go_upto_region 15 with fail
          have HFN := F9
          clear F9
          obtain ⟨p0, p1⟩ := row2 HFN.out.box.1
          obtain ⟨q0, q1⟩ := row2 HFN.out.r2
          have f0 := HFN.out.r2.thaw 0
          have f1 := HFN.out.r2.thaw 1
          go_wp2_with fail
          have zr : Row (wr2 Y9 w.heap.size (some ⟨gb, 0, none⟩) (L).length L.length ((X.length : Int) + x)) w.heap.size 24 #[.slice (some ⟨gb, 0, none⟩) (L).length L.length, .int .i64 ((X.length : Int) + x)] := set2_row _ _ HFN.out.r2
          have zp : Bys (wr2 Y9 w.heap.size (some ⟨gb, 0, none⟩) (L).length L.length ((X.length : Int) + x)) (some ⟨gb, 0, none⟩) L.length (L) := HFN.out.box.2.set2 HFN.out.r2
          have zs : Src W b (wr2 Y9 w.heap.size (some ⟨gb, 0, none⟩) (L).length L.length ((X.length : Int) + x)) := Src.grown (Src.grown HFN.out.src (grown_set0 _ _ _ _) (fun g e => by injection e with e; subst e; exact ⟨G2.out.2, G2.out.1⟩)) (grown_set0 _ _ _ _) (fun g e => by injection e with e; subst e; exact ⟨G2.out.2, G2.out.1⟩)
          have zg : w.grownBy (wr2 Y9 w.heap.size (some ⟨gb, 0, none⟩) (L).length L.length ((X.length : Int) + x)) (some b) := grown_new (grown_new HFN.out.gro (Nat.le_refl _) 0 _) (Nat.le_refl _) 1 _
          clear HFN p0 p1 q0 q1 f0 f1
          change bodyPost _ _ _ _ _ (wr2 Y9 w.heap.size (some ⟨gb, 0, none⟩) (L).length L.length ((X.length : Int) + x))
          generalize wr2 Y9 w.heap.size (some ⟨gb, 0, none⟩) (L).length L.length ((X.length : Int) + x) = V9 at zr zp zs zg ⊢
          obtain ⟨k7, k8⟩ := row2 zr
          have ZP := Lib.hid zp
          have ZS := Lib.hid zs
          have ZG := Lib.hid zg
          clear zr zp zs zg
          exact bodyPost_ret (v := .agg #[.slice (some ⟨gb, 0, none⟩) (L).length L.length, .int .i64 ((X.length : Int) + x)]) (by simp [results, Try.results10, go_sem, k7, k8]) rfl ⟨(some ⟨gb, 0, none⟩), L.length, L, (X.length : Int) + x, rfl, ZP.out, ZS.out, ZG.out, by omega, by omega, by omega⟩
        · go_simp
          refine (range_any W b _ (-2) 2 F7.out.1.src (by decide) (by decide) (by decide) (by decide)).mono ?_
          rintro e Y8 ⟨x, ⟨xa, xb⟩, rfl, hs8, hg8⟩
          have F8 := Lib.hid (show Lf W b w g5 (some ⟨gb, 0, none⟩) L.length L X.length Y8 ∧ Own Y8 gb L from ⟨F7.out.1.read hs8 hg8 G2.out.1 N5.out.2.2.2.1, own_read F7.out.2 hg8 N5.out.1⟩)
          clear F7 hs8 hg8
          go_wp2_with fail
          refine hK.out _ _ trivial (fun hHeld => ?_)
          clear hK Kx
          try simp only [Act.put, List.setIfInBounds_toArray, List.set_cons_zero, List.set_cons_succ]
          refine wpAnyH_ready (rs := [1]) (by kernel_rfl) (by simp) ?_
          refine (AllReadyH.cons (o := ⟨some 24, _, _, _, _, none⟩) rfl (fun Kx hK => ?_) AllReadyH.nil)
          obtain ⟨p0, p1⟩ := row2 F8.out.1.box.1
          go_simp
          refine hK.out _ _ trivial (fun hHeld => ?_)
          clear p0 p1
          clear hK Kx
          try simp only [Act.put, List.setIfInBounds_toArray, List.set_cons_zero, List.set_cons_succ]
          have x1 : IntKind.i64.wrap ((X.length : Int) + x) = (X.length : Int) + x := IntWalk.i64_in _ ⟨by omega, by omega⟩
          refine wpAnyH_take (i := 4) (oi := ⟨some 27, _, _, _, _, none⟩) (v := ?_) rfl (by kernel_rfl) (by kernel_rfl) (by kernel_rfl) (fun _ _ _ h => h) (Or.inl ⟨by rfl, ?_⟩) (by assumption) ?_
          case refine_2 => (intro wx hSx; (try dsimp only at hSx); go_simp; first | done | with_reducible rfl)
          try simp only [Act.put, List.setIfInBounds_toArray, List.set_cons_zero, List.set_cons_succ]
          refine wpAnyH_take (i := 5) (oi := ⟨some 28, _, _, _, _, none⟩) (v := ?_) rfl (by kernel_rfl) (by kernel_rfl) (by kernel_rfl) (fun _ _ _ h => h) (Or.inl ⟨by rfl, ?_⟩) (by assumption) ?_
          case refine_2 => (intro wx hSx; (try dsimp only at hSx); go_simp; first | done | with_reducible rfl)
          try simp only [Act.put, List.setIfInBounds_toArray, List.set_cons_zero, List.set_cons_succ]
          clear x1
          obtain ⟨p0, p1⟩ := row2 F8.out.1.box.1
          have f1 := F8.out.1.box.1.thaw 1
          refine wpAnyH_ready (rs := [6]) (by kernel_rfl) (by simp) ?_
          refine (AllReadyH.cons rfl (fun Kx hK => ?_) AllReadyH.nil)
          go_simp
          have F9 : Hid (Lf W b w g5 (some ⟨gb, 0, none⟩) L.length L ((X.length : Int) + x) (Y8.setCell ⟨g5, 1, none⟩ (.int .i64 ((X.length : Int) + x)))) := Lib.hid ⟨Src.grown F8.out.1.src (grown_set0 _ _ _ _) (fun g e => by injection e with e; subst e; exact ⟨N5.out.2.2.2.2.2.2.2.2, N5.out.2.2.2.1⟩), grown_new F8.out.1.gro N5.out.2.2.2.2.2.1 1 _, F8.out.1.r2.far (p := ⟨g5, 1, none⟩) N5.out.2.2.2.2.1 _, Row.put F8.out.1.box.1 1 _, F8.out.1.box.2.far F8.out.1.box.1⟩
          clear F8 p0 p1 f1
          refine hK.out _ _ trivial (fun hHeld2 => ?_)
          clear hHeld hHeld2
          clear hK Kx
          try simp only [Act.put, List.setIfInBounds_toArray, List.set_cons_zero, List.set_cons_succ]
          refine wpAnyH_done (by kernel_rfl) ?_ _
          generalize Y8.setCell ⟨g5, 1, none⟩ (.int .i64 ((X.length : Int) + x)) = Y9 at F9 ⊢
          go_upto_region 15 with fail
          have HFN := F9
          clear F9
          obtain ⟨p0, p1⟩ := row2 HFN.out.box.1
          obtain ⟨q0, q1⟩ := row2 HFN.out.r2
          have f0 := HFN.out.r2.thaw 0
          have f1 := HFN.out.r2.thaw 1
          go_wp2_with fail
          have zr : Row (wr2 Y9 w.heap.size (some ⟨gb, 0, none⟩) (L).length L.length ((X.length : Int) + x)) w.heap.size 24 #[.slice (some ⟨gb, 0, none⟩) (L).length L.length, .int .i64 ((X.length : Int) + x)] := set2_row _ _ HFN.out.r2
          have zp : Bys (wr2 Y9 w.heap.size (some ⟨gb, 0, none⟩) (L).length L.length ((X.length : Int) + x)) (some ⟨gb, 0, none⟩) L.length (L) := HFN.out.box.2.set2 HFN.out.r2
          have zs : Src W b (wr2 Y9 w.heap.size (some ⟨gb, 0, none⟩) (L).length L.length ((X.length : Int) + x)) := Src.grown (Src.grown HFN.out.src (grown_set0 _ _ _ _) (fun g e => by injection e with e; subst e; exact ⟨G2.out.2, G2.out.1⟩)) (grown_set0 _ _ _ _) (fun g e => by injection e with e; subst e; exact ⟨G2.out.2, G2.out.1⟩)
          have zg : w.grownBy (wr2 Y9 w.heap.size (some ⟨gb, 0, none⟩) (L).length L.length ((X.length : Int) + x)) (some b) := grown_new (grown_new HFN.out.gro (Nat.le_refl _) 0 _) (Nat.le_refl _) 1 _
          clear HFN p0 p1 q0 q1 f0 f1
          change bodyPost _ _ _ _ _ (wr2 Y9 w.heap.size (some ⟨gb, 0, none⟩) (L).length L.length ((X.length : Int) + x))
          generalize wr2 Y9 w.heap.size (some ⟨gb, 0, none⟩) (L).length L.length ((X.length : Int) + x) = V9 at zr zp zs zg ⊢
          obtain ⟨k7, k8⟩ := row2 zr
          have ZP := Lib.hid zp
          have ZS := Lib.hid zs
          have ZG := Lib.hid zg
          clear zr zp zs zg
          exact bodyPost_ret (v := .agg #[.slice (some ⟨gb, 0, none⟩) (L).length L.length, .int .i64 ((X.length : Int) + x)]) (by simp [results, Try.results10, go_sem, k7, k8]) rfl ⟨(some ⟨gb, 0, none⟩), L.length, L, (X.length : Int) + x, rfl, ZP.out, ZS.out, ZG.out, by omega, by omega, by omega⟩
      · have e0 : (q == 0) = false := by rw [beq_eq_false_iff_ne]; exact q0
        by_cases q1 : q = 1
        · subst q1
          go_upto_region 11 with fail
          refine wp_region_held_drew (S := fun _ : World => True) (by kernel_rfl) trivial (fun hHeld => ?_)
          refine wpAnyH_take (i := 0) (oi := ⟨some 31, _, _, _, _, none⟩) (v := ?_) rfl (by kernel_rfl) (by kernel_rfl) (by kernel_rfl) (fun _ _ _ h => h) (Or.inl ⟨by rfl, ?_⟩) (by assumption) ?_
          case refine_2 => (intro wx hSx; (try dsimp only at hSx); go_simp; first | done | with_reducible rfl)
          try simp only [Act.put, List.setIfInBounds_toArray, List.set_cons_zero, List.set_cons_succ]
          refine wpAnyH_take (i := 2) (oi := ⟨some 33, _, _, _, _, none⟩) (v := ?_) rfl (by kernel_rfl) (by kernel_rfl) (by kernel_rfl) (fun _ _ _ h => h) (Or.inl ⟨by rfl, ?_⟩) (by assumption) ?_
          case refine_2 => (intro wx hSx; (try dsimp only at hSx); go_simp; first | done | with_reducible rfl)
          try simp only [Act.put, List.setIfInBounds_toArray, List.set_cons_zero, List.set_cons_succ]
          have F7 : Hid (Lf W b w g5 (some ⟨gb, 0, none⟩) L.length L X.length Y6.drew ∧ Own Y6.drew gb L) := Lib.hid ⟨⟨F6.out.1.src.under (below_drewN (Below.refl _ _) 1), grown_trans F6.out.1.gro (grown_below (below_drewN (Below.refl Y6.heap.size _) 1)), F6.out.1.r2.drew, F6.out.1.box.under (below_drewN (Below.refl _ _) 1)⟩, Row.drew F6.out.2⟩
          clear F6
          generalize Y6.drew = Y7 at F7 hHeld ⊢
          refine wpAnyH_ready (rs := [1, 3]) (by kernel_rfl) (by simp) ?_
          refine (AllReadyH.cons (o := ⟨some 32, _, _, _, _, none⟩) rfl (fun Kx hK => ?_) (AllReadyH.cons (o := ⟨some 34, _, _, _, _, none⟩) rfl (fun Kx hK => ?_) AllReadyH.nil))
          · obtain ⟨p0, p1⟩ := row2 F7.out.1.box.1
            go_simp
            refine hK.out _ _ trivial (fun hHeld => ?_)
            clear p0 p1
            clear hK Kx
            try simp only [Act.put, List.setIfInBounds_toArray, List.set_cons_zero, List.set_cons_succ]
            refine wpAnyH_ready (rs := [3]) (by kernel_rfl) (by simp) ?_
            refine (AllReadyH.cons (o := ⟨some 34, _, _, _, _, none⟩) rfl (fun Kx hK => ?_) AllReadyH.nil)
            go_simp
            refine (n_any W b _ 2 F7.out.1.src (by decide) (by decide)).mono ?_
            rintro e Y8 ⟨x, ⟨xa, xb⟩, rfl, hs8, hg8⟩
            have F8 := Lib.hid (show Lf W b w g5 (some ⟨gb, 0, none⟩) L.length L X.length Y8 ∧ Own Y8 gb L from ⟨F7.out.1.read hs8 hg8 G2.out.1 N5.out.2.2.2.1, own_read F7.out.2 hg8 N5.out.1⟩)
            clear F7 hs8 hg8
            go_wp2_with fail
            refine hK.out _ _ trivial (fun hHeld => ?_)
            clear hK Kx
            try simp only [Act.put, List.setIfInBounds_toArray, List.set_cons_zero, List.set_cons_succ]
            obtain ⟨z, rfl⟩ := Int.eq_ofNat_of_zero_le xa
            have x1 : IntKind.u8.wrap (z : Int) = (z : Int) := by rw [IntKind.wrap_u8]; omega
            have z2 : z < 2 := by omega
            refine wpAnyH_take (i := 4) (oi := ⟨some 35, _, _, _, _, none⟩) (v := ?_) rfl (by kernel_rfl) (by kernel_rfl) (by kernel_rfl) (fun _ _ _ h => h) (Or.inl ⟨by rfl, ?_⟩) (by assumption) ?_
            case refine_2 => (intro wx hSx; (try dsimp only at hSx); go_simp; first | done | with_reducible rfl)
            try simp only [Act.put, List.setIfInBounds_toArray, List.set_cons_zero, List.set_cons_succ]
            clear x1
            refine wpAnyH_ready (rs := [5]) (by kernel_rfl) (by simp) ?_
            refine (AllReadyH.cons (o := ⟨some 36, _, _, _, _, none⟩) rfl (fun Kx hK => ?_) AllReadyH.nil)
            go_simp
            have F9 := Lib.hid (show Lf W b w g5 (some ⟨gb, 0, none⟩) L.length L X.length (Y8.alloc (.cells #[.int .u8 (z : Int)] 5)) ∧ Own (Y8.alloc (.cells #[.int .u8 (z : Int)] 5)) gb L from ⟨⟨F8.out.1.src.under ((Below.refl _ _).alloc (Nat.le_refl _) _), grown_trans F8.out.1.gro (grown_below ((Below.refl _ _).alloc (Nat.le_refl _) _)), F8.out.1.r2.alloc _, F8.out.1.box.alloc _⟩, Row.alloc F8.out.2 _⟩)
            have Z9 : Hid (Row (Y8.alloc (.cells #[.int .u8 (z : Int)] 5)) Y8.heap.size 5 #[.int .u8 (z : Int)]) := Lib.hid (Row.new _ _ _)
            clear F8
            refine hK.out _ _ trivial (fun hHeld => ?_)
            clear hK Kx
            try simp only [Act.put, List.setIfInBounds_toArray, List.set_cons_zero, List.set_cons_succ]
            refine genH (fun V => Hid (Lf W b w g5 (some ⟨gb, 0, none⟩) L.length L X.length V ∧ Own V gb L) ∧ Hid (Row V Y8.heap.size 5 #[.int .u8 (z : Int)])) ⟨F9, Z9⟩ ?_
            clear F9 Z9 hHeld
            generalize Y8.heap.size = gx
            rintro Y9 ⟨F9, Z9⟩
            have hHeld : True := trivial
            refine wpAnyH_ready (rs := [6]) (by kernel_rfl) (by simp) ?_
            refine (AllReadyH.cons (o := ⟨some 37, _, _, _, _, none⟩) rfl (fun Kx hK => ?_) AllReadyH.nil)
            obtain ⟨A9, c9, Y10, kr, hB, hg⟩ := append_byte Y9 gb L z 22 gx F9.out.2 Z9.out (by omega) HPb.out (by omega)
            refine step_append_run rfl (.tmp 32) (.tmp 36) 22 rfl _ _ rfl rfl kr ?_
            have F10 := Lib.hid (show Src W b Y10 ∧ w.grownBy Y10 (some b) ∧ Row Y10 w.heap.size 24 #[.slice none 0 0, .int .i64 0] ∧ Row Y10 g5 24 #[.slice (some ⟨gb, 0, none⟩) L.length L.length, .int .i64 (X.length : Int)] ∧ Bys Y10 A9 c9 (L ++ [z]) from ⟨F9.out.1.src.grown hg (fun g e => by injection e with e; subst e; exact ⟨N5.out.2.2.2.2.2.2.2.1, N5.out.1⟩), grown_other F9.out.1.gro hg N5.out.2.2.2.2.2.2.1, F9.out.1.r2.grown hg (fun e => N5.out.2.1 (by injection e with e; exact e.symm)), F9.out.1.box.1.grown hg (fun e => N5.out.2.2.1 (by injection e with e; exact e.symm)), hB⟩)
            clear kr hB hg F9 Z9
            refine hK.out _ _ trivial (fun hHeld2 => ?_)
            clear hHeld2
            clear hK Kx
            try simp only [Act.put, List.setIfInBounds_toArray, List.set_cons_zero, List.set_cons_succ]
            refine wpAnyH_take (i := 7) (oi := ⟨some 38, _, _, _, _, none⟩) (v := ?_) rfl (by kernel_rfl) (by kernel_rfl) (by kernel_rfl) (fun _ _ _ h => h) (Or.inl ⟨by rfl, ?_⟩) (by assumption) ?_
            case refine_2 => (intro wx hSx; (try dsimp only at hSx); go_simp; first | done | with_reducible rfl)
            try simp only [Act.put, List.setIfInBounds_toArray, List.set_cons_zero, List.set_cons_succ]
            obtain ⟨p0, p1⟩ := row2 F10.out.2.2.2.1
            have f0 := F10.out.2.2.2.1.thaw 0
            refine wpAnyH_ready (rs := [8]) (by kernel_rfl) (by simp) ?_
            refine (AllReadyH.cons rfl (fun Kx hK => ?_) AllReadyH.nil)
            go_simp
            have e9 : (L ++ [z]).length = L.length + 1 := by rw [List.length_append, List.length_singleton]
            have F11 : Hid (Lf W b w g5 A9 c9 (L ++ [z]) X.length (Y10.setCell ⟨g5, 0, none⟩ (.slice A9 (L.length + 1) c9))) := Lib.hid (by rw [← e9]; exact ⟨Src.grown F10.out.1 (grown_set0 _ _ _ _) (fun g e => by injection e with e; subst e; exact ⟨N5.out.2.2.2.2.2.2.2.2, N5.out.2.2.2.1⟩), grown_new F10.out.2.1 N5.out.2.2.2.2.2.1 0 _, F10.out.2.2.1.far (p := ⟨g5, 0, none⟩) N5.out.2.2.2.2.1 _, Row.put F10.out.2.2.2.1 0 _, F10.out.2.2.2.2.far F10.out.2.2.2.1⟩)
            clear e9
            have hL6 : (L ++ [z]).length ≤ 6 := by rw [List.length_append, List.length_singleton]; omega
            generalize L ++ [z] = L9 at F10 F11 hL6 ⊢
            clear F10 p0 p1 f0
            refine hK.out _ _ trivial (fun hHeld2 => ?_)
            clear hHeld2
            clear hK Kx
            try simp only [Act.put, List.setIfInBounds_toArray, List.set_cons_zero, List.set_cons_succ]
            refine wpAnyH_done (by kernel_rfl) ?_ _
            generalize Y10.setCell ⟨g5, 0, none⟩ (.slice A9 (L.length + 1) c9) = Y11 at F11 ⊢
            go_upto_region 15 with fail
            have HFN := F11
            clear F11
            obtain ⟨p0, p1⟩ := row2 HFN.out.box.1
            obtain ⟨q0, q1⟩ := row2 HFN.out.r2
            have f0 := HFN.out.r2.thaw 0
            have f1 := HFN.out.r2.thaw 1
            go_wp2_with fail
            have zr : Row (wr2 Y11 w.heap.size A9 (L9).length c9 (X.length)) w.heap.size 24 #[.slice A9 (L9).length c9, .int .i64 (X.length)] := set2_row _ _ HFN.out.r2
            have zp : Bys (wr2 Y11 w.heap.size A9 (L9).length c9 (X.length)) A9 c9 (L9) := HFN.out.box.2.set2 HFN.out.r2
            have zs : Src W b (wr2 Y11 w.heap.size A9 (L9).length c9 (X.length)) := Src.grown (Src.grown HFN.out.src (grown_set0 _ _ _ _) (fun g e => by injection e with e; subst e; exact ⟨G2.out.2, G2.out.1⟩)) (grown_set0 _ _ _ _) (fun g e => by injection e with e; subst e; exact ⟨G2.out.2, G2.out.1⟩)
            have zg : w.grownBy (wr2 Y11 w.heap.size A9 (L9).length c9 (X.length)) (some b) := grown_new (grown_new HFN.out.gro (Nat.le_refl _) 0 _) (Nat.le_refl _) 1 _
            clear HFN p0 p1 q0 q1 f0 f1
            change bodyPost _ _ _ _ _ (wr2 Y11 w.heap.size A9 (L9).length c9 (X.length))
            generalize wr2 Y11 w.heap.size A9 (L9).length c9 (X.length) = V9 at zr zp zs zg ⊢
            obtain ⟨k7, k8⟩ := row2 zr
            have ZP := Lib.hid zp
            have ZS := Lib.hid zs
            have ZG := Lib.hid zg
            clear zr zp zs zg
            exact bodyPost_ret (v := .agg #[.slice A9 (L9).length c9, .int .i64 (X.length)]) (by simp [results, Try.results10, go_sem, k7, k8]) rfl ⟨A9, c9, L9, X.length, rfl, ZP.out, ZS.out, ZG.out, hL6, by omega, by omega⟩
          · go_simp
            refine (n_any W b _ 2 F7.out.1.src (by decide) (by decide)).mono ?_
            rintro e Y8 ⟨x, ⟨xa, xb⟩, rfl, hs8, hg8⟩
            have F8 := Lib.hid (show Lf W b w g5 (some ⟨gb, 0, none⟩) L.length L X.length Y8 ∧ Own Y8 gb L from ⟨F7.out.1.read hs8 hg8 G2.out.1 N5.out.2.2.2.1, own_read F7.out.2 hg8 N5.out.1⟩)
            clear F7 hs8 hg8
            go_wp2_with fail
            refine hK.out _ _ trivial (fun hHeld => ?_)
            clear hK Kx
            try simp only [Act.put, List.setIfInBounds_toArray, List.set_cons_zero, List.set_cons_succ]
            obtain ⟨z, rfl⟩ := Int.eq_ofNat_of_zero_le xa
            have x1 : IntKind.u8.wrap (z : Int) = (z : Int) := by rw [IntKind.wrap_u8]; omega
            have z2 : z < 2 := by omega
            refine wpAnyH_take (i := 4) (oi := ⟨some 35, _, _, _, _, none⟩) (v := ?_) rfl (by kernel_rfl) (by kernel_rfl) (by kernel_rfl) (fun _ _ _ h => h) (Or.inl ⟨by rfl, ?_⟩) (by assumption) ?_
            case refine_2 => (intro wx hSx; (try dsimp only at hSx); go_simp; first | done | with_reducible rfl)
            try simp only [Act.put, List.setIfInBounds_toArray, List.set_cons_zero, List.set_cons_succ]
            clear x1
            refine wpAnyH_ready (rs := [1, 5]) (by kernel_rfl) (by simp) ?_
            refine (AllReadyH.cons (o := ⟨some 32, _, _, _, _, none⟩) rfl (fun Kx hK => ?_) (AllReadyH.cons (o := ⟨some 36, _, _, _, _, none⟩) rfl (fun Kx hK => ?_) AllReadyH.nil))
            · obtain ⟨p0, p1⟩ := row2 F8.out.1.box.1
              go_simp
              refine hK.out _ _ trivial (fun hHeld => ?_)
              clear p0 p1
              clear hK Kx
              try simp only [Act.put, List.setIfInBounds_toArray, List.set_cons_zero, List.set_cons_succ]
              refine wpAnyH_ready (rs := [5]) (by kernel_rfl) (by simp) ?_
              refine (AllReadyH.cons (o := ⟨some 36, _, _, _, _, none⟩) rfl (fun Kx hK => ?_) AllReadyH.nil)
              go_simp
              have F9 := Lib.hid (show Lf W b w g5 (some ⟨gb, 0, none⟩) L.length L X.length (Y8.alloc (.cells #[.int .u8 (z : Int)] 5)) ∧ Own (Y8.alloc (.cells #[.int .u8 (z : Int)] 5)) gb L from ⟨⟨F8.out.1.src.under ((Below.refl _ _).alloc (Nat.le_refl _) _), grown_trans F8.out.1.gro (grown_below ((Below.refl _ _).alloc (Nat.le_refl _) _)), F8.out.1.r2.alloc _, F8.out.1.box.alloc _⟩, Row.alloc F8.out.2 _⟩)
              have Z9 : Hid (Row (Y8.alloc (.cells #[.int .u8 (z : Int)] 5)) Y8.heap.size 5 #[.int .u8 (z : Int)]) := Lib.hid (Row.new _ _ _)
              clear F8
              refine hK.out _ _ trivial (fun hHeld => ?_)
              clear hK Kx
              try simp only [Act.put, List.setIfInBounds_toArray, List.set_cons_zero, List.set_cons_succ]
              refine genH (fun V => Hid (Lf W b w g5 (some ⟨gb, 0, none⟩) L.length L X.length V ∧ Own V gb L) ∧ Hid (Row V Y8.heap.size 5 #[.int .u8 (z : Int)])) ⟨F9, Z9⟩ ?_
              clear F9 Z9 hHeld
              generalize Y8.heap.size = gx
              rintro Y9 ⟨F9, Z9⟩
              have hHeld : True := trivial
              refine wpAnyH_ready (rs := [6]) (by kernel_rfl) (by simp) ?_
              refine (AllReadyH.cons (o := ⟨some 37, _, _, _, _, none⟩) rfl (fun Kx hK => ?_) AllReadyH.nil)
              obtain ⟨A9, c9, Y10, kr, hB, hg⟩ := append_byte Y9 gb L z 22 gx F9.out.2 Z9.out (by omega) HPb.out (by omega)
              refine step_append_run rfl (.tmp 32) (.tmp 36) 22 rfl _ _ rfl rfl kr ?_
              have F10 := Lib.hid (show Src W b Y10 ∧ w.grownBy Y10 (some b) ∧ Row Y10 w.heap.size 24 #[.slice none 0 0, .int .i64 0] ∧ Row Y10 g5 24 #[.slice (some ⟨gb, 0, none⟩) L.length L.length, .int .i64 (X.length : Int)] ∧ Bys Y10 A9 c9 (L ++ [z]) from ⟨F9.out.1.src.grown hg (fun g e => by injection e with e; subst e; exact ⟨N5.out.2.2.2.2.2.2.2.1, N5.out.1⟩), grown_other F9.out.1.gro hg N5.out.2.2.2.2.2.2.1, F9.out.1.r2.grown hg (fun e => N5.out.2.1 (by injection e with e; exact e.symm)), F9.out.1.box.1.grown hg (fun e => N5.out.2.2.1 (by injection e with e; exact e.symm)), hB⟩)
              clear kr hB hg F9 Z9
              refine hK.out _ _ trivial (fun hHeld2 => ?_)
              clear hHeld2
              clear hK Kx
              try simp only [Act.put, List.setIfInBounds_toArray, List.set_cons_zero, List.set_cons_succ]
              refine wpAnyH_take (i := 7) (oi := ⟨some 38, _, _, _, _, none⟩) (v := ?_) rfl (by kernel_rfl) (by kernel_rfl) (by kernel_rfl) (fun _ _ _ h => h) (Or.inl ⟨by rfl, ?_⟩) (by assumption) ?_
              case refine_2 => (intro wx hSx; (try dsimp only at hSx); go_simp; first | done | with_reducible rfl)
              try simp only [Act.put, List.setIfInBounds_toArray, List.set_cons_zero, List.set_cons_succ]
              obtain ⟨p0, p1⟩ := row2 F10.out.2.2.2.1
              have f0 := F10.out.2.2.2.1.thaw 0
              refine wpAnyH_ready (rs := [8]) (by kernel_rfl) (by simp) ?_
              refine (AllReadyH.cons rfl (fun Kx hK => ?_) AllReadyH.nil)
              go_simp
              have e9 : (L ++ [z]).length = L.length + 1 := by rw [List.length_append, List.length_singleton]
              have F11 : Hid (Lf W b w g5 A9 c9 (L ++ [z]) X.length (Y10.setCell ⟨g5, 0, none⟩ (.slice A9 (L.length + 1) c9))) := Lib.hid (by rw [← e9]; exact ⟨Src.grown F10.out.1 (grown_set0 _ _ _ _) (fun g e => by injection e with e; subst e; exact ⟨N5.out.2.2.2.2.2.2.2.2, N5.out.2.2.2.1⟩), grown_new F10.out.2.1 N5.out.2.2.2.2.2.1 0 _, F10.out.2.2.1.far (p := ⟨g5, 0, none⟩) N5.out.2.2.2.2.1 _, Row.put F10.out.2.2.2.1 0 _, F10.out.2.2.2.2.far F10.out.2.2.2.1⟩)
              clear e9
              have hL6 : (L ++ [z]).length ≤ 6 := by rw [List.length_append, List.length_singleton]; omega
              generalize L ++ [z] = L9 at F10 F11 hL6 ⊢
              clear F10 p0 p1 f0
              refine hK.out _ _ trivial (fun hHeld2 => ?_)
              clear hHeld2
              clear hK Kx
              try simp only [Act.put, List.setIfInBounds_toArray, List.set_cons_zero, List.set_cons_succ]
              refine wpAnyH_done (by kernel_rfl) ?_ _
              generalize Y10.setCell ⟨g5, 0, none⟩ (.slice A9 (L.length + 1) c9) = Y11 at F11 ⊢
              go_upto_region 15 with fail
              have HFN := F11
              clear F11
              obtain ⟨p0, p1⟩ := row2 HFN.out.box.1
              obtain ⟨q0, q1⟩ := row2 HFN.out.r2
              have f0 := HFN.out.r2.thaw 0
              have f1 := HFN.out.r2.thaw 1
              go_wp2_with fail
              have zr : Row (wr2 Y11 w.heap.size A9 (L9).length c9 (X.length)) w.heap.size 24 #[.slice A9 (L9).length c9, .int .i64 (X.length)] := set2_row _ _ HFN.out.r2
              have zp : Bys (wr2 Y11 w.heap.size A9 (L9).length c9 (X.length)) A9 c9 (L9) := HFN.out.box.2.set2 HFN.out.r2
              have zs : Src W b (wr2 Y11 w.heap.size A9 (L9).length c9 (X.length)) := Src.grown (Src.grown HFN.out.src (grown_set0 _ _ _ _) (fun g e => by injection e with e; subst e; exact ⟨G2.out.2, G2.out.1⟩)) (grown_set0 _ _ _ _) (fun g e => by injection e with e; subst e; exact ⟨G2.out.2, G2.out.1⟩)
              have zg : w.grownBy (wr2 Y11 w.heap.size A9 (L9).length c9 (X.length)) (some b) := grown_new (grown_new HFN.out.gro (Nat.le_refl _) 0 _) (Nat.le_refl _) 1 _
              clear HFN p0 p1 q0 q1 f0 f1
              change bodyPost _ _ _ _ _ (wr2 Y11 w.heap.size A9 (L9).length c9 (X.length))
              generalize wr2 Y11 w.heap.size A9 (L9).length c9 (X.length) = V9 at zr zp zs zg ⊢
              obtain ⟨k7, k8⟩ := row2 zr
              have ZP := Lib.hid zp
              have ZS := Lib.hid zs
              have ZG := Lib.hid zg
              clear zr zp zs zg
              exact bodyPost_ret (v := .agg #[.slice A9 (L9).length c9, .int .i64 (X.length)]) (by simp [results, Try.results10, go_sem, k7, k8]) rfl ⟨A9, c9, L9, X.length, rfl, ZP.out, ZS.out, ZG.out, hL6, by omega, by omega⟩
            · go_simp
              have F9 := Lib.hid (show Lf W b w g5 (some ⟨gb, 0, none⟩) L.length L X.length (Y8.alloc (.cells #[.int .u8 (z : Int)] 5)) ∧ Own (Y8.alloc (.cells #[.int .u8 (z : Int)] 5)) gb L from ⟨⟨F8.out.1.src.under ((Below.refl _ _).alloc (Nat.le_refl _) _), grown_trans F8.out.1.gro (grown_below ((Below.refl _ _).alloc (Nat.le_refl _) _)), F8.out.1.r2.alloc _, F8.out.1.box.alloc _⟩, Row.alloc F8.out.2 _⟩)
              have Z9 : Hid (Row (Y8.alloc (.cells #[.int .u8 (z : Int)] 5)) Y8.heap.size 5 #[.int .u8 (z : Int)]) := Lib.hid (Row.new _ _ _)
              clear F8
              refine hK.out _ _ trivial (fun hHeld => ?_)
              clear hK Kx
              try simp only [Act.put, List.setIfInBounds_toArray, List.set_cons_zero, List.set_cons_succ]
              refine genH (fun V => Hid (Lf W b w g5 (some ⟨gb, 0, none⟩) L.length L X.length V ∧ Own V gb L) ∧ Hid (Row V Y8.heap.size 5 #[.int .u8 (z : Int)])) ⟨F9, Z9⟩ ?_
              clear F9 Z9 hHeld
              generalize Y8.heap.size = gx
              rintro Y9 ⟨F9, Z9⟩
              have hHeld : True := trivial
              refine wpAnyH_ready (rs := [1]) (by kernel_rfl) (by simp) ?_
              refine (AllReadyH.cons (o := ⟨some 32, _, _, _, _, none⟩) rfl (fun Kx hK => ?_) AllReadyH.nil)
              obtain ⟨p0, p1⟩ := row2 F9.out.1.box.1
              go_simp
              refine hK.out _ _ trivial (fun hHeld => ?_)
              clear p0 p1
              clear hK Kx
              try simp only [Act.put, List.setIfInBounds_toArray, List.set_cons_zero, List.set_cons_succ]
              refine wpAnyH_ready (rs := [6]) (by kernel_rfl) (by simp) ?_
              refine (AllReadyH.cons (o := ⟨some 37, _, _, _, _, none⟩) rfl (fun Kx hK => ?_) AllReadyH.nil)
              obtain ⟨A9, c9, Y10, kr, hB, hg⟩ := append_byte Y9 gb L z 22 gx F9.out.2 Z9.out (by omega) HPb.out (by omega)
              refine step_append_run rfl (.tmp 32) (.tmp 36) 22 rfl _ _ rfl rfl kr ?_
              have F10 := Lib.hid (show Src W b Y10 ∧ w.grownBy Y10 (some b) ∧ Row Y10 w.heap.size 24 #[.slice none 0 0, .int .i64 0] ∧ Row Y10 g5 24 #[.slice (some ⟨gb, 0, none⟩) L.length L.length, .int .i64 (X.length : Int)] ∧ Bys Y10 A9 c9 (L ++ [z]) from ⟨F9.out.1.src.grown hg (fun g e => by injection e with e; subst e; exact ⟨N5.out.2.2.2.2.2.2.2.1, N5.out.1⟩), grown_other F9.out.1.gro hg N5.out.2.2.2.2.2.2.1, F9.out.1.r2.grown hg (fun e => N5.out.2.1 (by injection e with e; exact e.symm)), F9.out.1.box.1.grown hg (fun e => N5.out.2.2.1 (by injection e with e; exact e.symm)), hB⟩)
              clear kr hB hg F9 Z9
              refine hK.out _ _ trivial (fun hHeld2 => ?_)
              clear hHeld2
              clear hK Kx
              try simp only [Act.put, List.setIfInBounds_toArray, List.set_cons_zero, List.set_cons_succ]
              refine wpAnyH_take (i := 7) (oi := ⟨some 38, _, _, _, _, none⟩) (v := ?_) rfl (by kernel_rfl) (by kernel_rfl) (by kernel_rfl) (fun _ _ _ h => h) (Or.inl ⟨by rfl, ?_⟩) (by assumption) ?_
              case refine_2 => (intro wx hSx; (try dsimp only at hSx); go_simp; first | done | with_reducible rfl)
              try simp only [Act.put, List.setIfInBounds_toArray, List.set_cons_zero, List.set_cons_succ]
              obtain ⟨p0, p1⟩ := row2 F10.out.2.2.2.1
              have f0 := F10.out.2.2.2.1.thaw 0
              refine wpAnyH_ready (rs := [8]) (by kernel_rfl) (by simp) ?_
              refine (AllReadyH.cons rfl (fun Kx hK => ?_) AllReadyH.nil)
              go_simp
              have e9 : (L ++ [z]).length = L.length + 1 := by rw [List.length_append, List.length_singleton]
              have F11 : Hid (Lf W b w g5 A9 c9 (L ++ [z]) X.length (Y10.setCell ⟨g5, 0, none⟩ (.slice A9 (L.length + 1) c9))) := Lib.hid (by rw [← e9]; exact ⟨Src.grown F10.out.1 (grown_set0 _ _ _ _) (fun g e => by injection e with e; subst e; exact ⟨N5.out.2.2.2.2.2.2.2.2, N5.out.2.2.2.1⟩), grown_new F10.out.2.1 N5.out.2.2.2.2.2.1 0 _, F10.out.2.2.1.far (p := ⟨g5, 0, none⟩) N5.out.2.2.2.2.1 _, Row.put F10.out.2.2.2.1 0 _, F10.out.2.2.2.2.far F10.out.2.2.2.1⟩)
              clear e9
              have hL6 : (L ++ [z]).length ≤ 6 := by rw [List.length_append, List.length_singleton]; omega
              generalize L ++ [z] = L9 at F10 F11 hL6 ⊢
              clear F10 p0 p1 f0
              refine hK.out _ _ trivial (fun hHeld2 => ?_)
              clear hHeld2
              clear hK Kx
              try simp only [Act.put, List.setIfInBounds_toArray, List.set_cons_zero, List.set_cons_succ]
              refine wpAnyH_done (by kernel_rfl) ?_ _
              generalize Y10.setCell ⟨g5, 0, none⟩ (.slice A9 (L.length + 1) c9) = Y11 at F11 ⊢
              go_upto_region 15 with fail
              have HFN := F11
              clear F11
              obtain ⟨p0, p1⟩ := row2 HFN.out.box.1
              obtain ⟨q0, q1⟩ := row2 HFN.out.r2
              have f0 := HFN.out.r2.thaw 0
              have f1 := HFN.out.r2.thaw 1
              go_wp2_with fail
              have zr : Row (wr2 Y11 w.heap.size A9 (L9).length c9 (X.length)) w.heap.size 24 #[.slice A9 (L9).length c9, .int .i64 (X.length)] := set2_row _ _ HFN.out.r2
              have zp : Bys (wr2 Y11 w.heap.size A9 (L9).length c9 (X.length)) A9 c9 (L9) := HFN.out.box.2.set2 HFN.out.r2
              have zs : Src W b (wr2 Y11 w.heap.size A9 (L9).length c9 (X.length)) := Src.grown (Src.grown HFN.out.src (grown_set0 _ _ _ _) (fun g e => by injection e with e; subst e; exact ⟨G2.out.2, G2.out.1⟩)) (grown_set0 _ _ _ _) (fun g e => by injection e with e; subst e; exact ⟨G2.out.2, G2.out.1⟩)
              have zg : w.grownBy (wr2 Y11 w.heap.size A9 (L9).length c9 (X.length)) (some b) := grown_new (grown_new HFN.out.gro (Nat.le_refl _) 0 _) (Nat.le_refl _) 1 _
              clear HFN p0 p1 q0 q1 f0 f1
              change bodyPost _ _ _ _ _ (wr2 Y11 w.heap.size A9 (L9).length c9 (X.length))
              generalize wr2 Y11 w.heap.size A9 (L9).length c9 (X.length) = V9 at zr zp zs zg ⊢
              obtain ⟨k7, k8⟩ := row2 zr
              have ZP := Lib.hid zp
              have ZS := Lib.hid zs
              have ZG := Lib.hid zg
              clear zr zp zs zg
              exact bodyPost_ret (v := .agg #[.slice A9 (L9).length c9, .int .i64 (X.length)]) (by simp [results, Try.results10, go_sem, k7, k8]) rfl ⟨A9, c9, L9, X.length, rfl, ZP.out, ZS.out, ZG.out, hL6, by omega, by omega⟩
        · have e1 : (q == 1) = false := by rw [beq_eq_false_iff_ne]; exact q1
          by_cases q2 : q = 2
          · subst q2
            go_upto_region 13 with fail
            obtain ⟨p0, p1⟩ := row2 F6.out.1.box.1
            by_cases hl0 : 0 < L.length
            · have l0 : (0 : Int) < (L.length : Int) := by omega
              have l5 : (L.length : Int) ≤ 5 := by omega
              have cb : Y6.cell? ⟨gb, L.length - 1, none⟩ = some (.int .u8 (L[L.length - 1] : Int)) := by rw [Row.cell F6.out.2, List.getElem?_toArray]; exact byc_at (by omega)
              have fb := Row.thaw F6.out.2 (L.length - 1)
              have HB1 := Lib.hid (HPb.out _ (List.getElem_mem (show L.length - 1 < L.length by omega)))
              have u0 : (0 : Int) ≤ (L.length : Int) - 1 := by omega
              have u1 : (L.length : Int) - 1 < (L.length : Int) := by omega
              have u3 : ((L.length : Int) - 1).toNat = L.length - 1 := by omega
              generalize hxx : L[L.length - 1] = x at cb HB1
              clear hxx
              go_upto_region 15 with fail
              have hor : bits .or .u8 (x : Int) 1 = ((x ||| 1 : Nat) : Int) := (bits_nat .u8 8 (by decide) wraps_u8 x 1 HB1.out (by decide)).2
              rw [hor]
              have hx2 : x ||| 1 < 256 := Nat.or_lt_two_pow (n := 8) HB1.out (by decide)
              generalize x ||| 1 = y at hx2 ⊢
              have hl2 : (L.set (L.length - 1) y).length = L.length := List.length_set
              have ho : Own (Y6.setCell ⟨gb, L.length - 1, none⟩ (.int .u8 (y : Int))) gb (L.set (L.length - 1) y) := by
                rw [Own, byc_set, ← List.setIfInBounds_toArray]
                exact Row.put F6.out.2 _ _
              have hby : ∀ v ∈ L.set (L.length - 1) y, v < 256 := fun v hv => by
                rcases List.mem_or_eq_of_mem_set hv with h1 | rfl
                · exact HPb.out v h1
                · exact hx2
              have F7 : Hid (Lf W b w g5 (some ⟨gb, 0, none⟩) L.length (L.set (L.length - 1) y) X.length (Y6.setCell ⟨gb, L.length - 1, none⟩ (.int .u8 (y : Int)))) := Lib.hid ⟨Src.grown F6.out.1.src (grown_set0 _ _ _ _) (fun g e => by injection e with e; subst e; exact ⟨N5.out.2.2.2.2.2.2.2.1, N5.out.1⟩), grown_new F6.out.1.gro N5.out.2.2.2.2.2.2.1 _ _, F6.out.1.r2.far (p := ⟨gb, L.length - 1, none⟩) N5.out.2.1 _, by rw [hl2]; exact F6.out.1.box.1.far (p := ⟨gb, L.length - 1, none⟩) N5.out.2.2.1 _, by have := Own.bys ho hby (by rw [hl2]; omega); rw [hl2] at this; exact this⟩
              have HL2 := Lib.hid hl2
              clear F6 hl2 ho hby hor hx2 cb fb u0 u1 u3 p0 p1
              generalize Y6.setCell ⟨gb, L.length - 1, none⟩ (.int .u8 (y : Int)) = Y7 at F7 ⊢
              have hL6 : (L.set (L.length - 1) y).length ≤ 6 := by rw [HL2.out]; omega
              generalize L.set (L.length - 1) y = L9 at F7 HL2 hL6 ⊢
              have HFN := F7
              clear F7
              obtain ⟨p0, p1⟩ := row2 HFN.out.box.1
              obtain ⟨q0, q1⟩ := row2 HFN.out.r2
              have f0 := HFN.out.r2.thaw 0
              have f1 := HFN.out.r2.thaw 1
              go_wp2_with fail
              have zr : Row (wr2 Y7 w.heap.size (some ⟨gb, 0, none⟩) (L9).length L.length (X.length)) w.heap.size 24 #[.slice (some ⟨gb, 0, none⟩) (L9).length L.length, .int .i64 (X.length)] := set2_row _ _ HFN.out.r2
              have zp : Bys (wr2 Y7 w.heap.size (some ⟨gb, 0, none⟩) (L9).length L.length (X.length)) (some ⟨gb, 0, none⟩) L.length (L9) := HFN.out.box.2.set2 HFN.out.r2
              have zs : Src W b (wr2 Y7 w.heap.size (some ⟨gb, 0, none⟩) (L9).length L.length (X.length)) := Src.grown (Src.grown HFN.out.src (grown_set0 _ _ _ _) (fun g e => by injection e with e; subst e; exact ⟨G2.out.2, G2.out.1⟩)) (grown_set0 _ _ _ _) (fun g e => by injection e with e; subst e; exact ⟨G2.out.2, G2.out.1⟩)
              have zg : w.grownBy (wr2 Y7 w.heap.size (some ⟨gb, 0, none⟩) (L9).length L.length (X.length)) (some b) := grown_new (grown_new HFN.out.gro (Nat.le_refl _) 0 _) (Nat.le_refl _) 1 _
              clear HFN p0 p1 q0 q1 f0 f1
              change bodyPost _ _ _ _ _ (wr2 Y7 w.heap.size (some ⟨gb, 0, none⟩) (L9).length L.length (X.length))
              generalize wr2 Y7 w.heap.size (some ⟨gb, 0, none⟩) (L9).length L.length (X.length) = V9 at zr zp zs zg ⊢
              obtain ⟨k7, k8⟩ := row2 zr
              have ZP := Lib.hid zp
              have ZS := Lib.hid zs
              have ZG := Lib.hid zg
              clear zr zp zs zg
              exact bodyPost_ret (v := .agg #[.slice (some ⟨gb, 0, none⟩) (L9).length L.length, .int .i64 (X.length)]) (by simp [results, Try.results10, go_sem, k7, k8]) rfl ⟨(some ⟨gb, 0, none⟩), L.length, L9, X.length, rfl, ZP.out, ZS.out, ZG.out, hL6, by omega, by omega⟩
            · have l0 : ¬ (0 : Int) < (L.length : Int) := by omega
              go_upto_region 15 with fail
              have F7 := Lib.hid F6.out.1
              clear F6 p0 p1
              have HFN := F7
              clear F7
              obtain ⟨p0, p1⟩ := row2 HFN.out.box.1
              obtain ⟨q0, q1⟩ := row2 HFN.out.r2
              have f0 := HFN.out.r2.thaw 0
              have f1 := HFN.out.r2.thaw 1
              go_wp2_with fail
              have zr : Row (wr2 Y6 w.heap.size (some ⟨gb, 0, none⟩) (L).length L.length (X.length)) w.heap.size 24 #[.slice (some ⟨gb, 0, none⟩) (L).length L.length, .int .i64 (X.length)] := set2_row _ _ HFN.out.r2
              have zp : Bys (wr2 Y6 w.heap.size (some ⟨gb, 0, none⟩) (L).length L.length (X.length)) (some ⟨gb, 0, none⟩) L.length (L) := HFN.out.box.2.set2 HFN.out.r2
              have zs : Src W b (wr2 Y6 w.heap.size (some ⟨gb, 0, none⟩) (L).length L.length (X.length)) := Src.grown (Src.grown HFN.out.src (grown_set0 _ _ _ _) (fun g e => by injection e with e; subst e; exact ⟨G2.out.2, G2.out.1⟩)) (grown_set0 _ _ _ _) (fun g e => by injection e with e; subst e; exact ⟨G2.out.2, G2.out.1⟩)
              have zg : w.grownBy (wr2 Y6 w.heap.size (some ⟨gb, 0, none⟩) (L).length L.length (X.length)) (some b) := grown_new (grown_new HFN.out.gro (Nat.le_refl _) 0 _) (Nat.le_refl _) 1 _
              clear HFN p0 p1 q0 q1 f0 f1
              change bodyPost _ _ _ _ _ (wr2 Y6 w.heap.size (some ⟨gb, 0, none⟩) (L).length L.length (X.length))
              generalize wr2 Y6 w.heap.size (some ⟨gb, 0, none⟩) (L).length L.length (X.length) = V9 at zr zp zs zg ⊢
              obtain ⟨k7, k8⟩ := row2 zr
              have ZP := Lib.hid zp
              have ZS := Lib.hid zs
              have ZG := Lib.hid zg
              clear zr zp zs zg
              exact bodyPost_ret (v := .agg #[.slice (some ⟨gb, 0, none⟩) (L).length L.length, .int .i64 (X.length)]) (by simp [results, Try.results10, go_sem, k7, k8]) rfl ⟨(some ⟨gb, 0, none⟩), L.length, L, X.length, rfl, ZP.out, ZS.out, ZG.out, by omega, by omega, by omega⟩
          · have e2 : (q == 2) = false := by rw [beq_eq_false_iff_ne]; exact q2
            go_upto_region 15 with fail
            have F7 := Lib.hid F6.out.1
            clear F6
            have HFN := F7
            clear F7
            obtain ⟨p0, p1⟩ := row2 HFN.out.box.1
            obtain ⟨q0, q1⟩ := row2 HFN.out.r2
            have f0 := HFN.out.r2.thaw 0
            have f1 := HFN.out.r2.thaw 1
            go_wp2_with fail
            have zr : Row (wr2 Y6 w.heap.size (some ⟨gb, 0, none⟩) (L).length L.length (X.length)) w.heap.size 24 #[.slice (some ⟨gb, 0, none⟩) (L).length L.length, .int .i64 (X.length)] := set2_row _ _ HFN.out.r2
            have zp : Bys (wr2 Y6 w.heap.size (some ⟨gb, 0, none⟩) (L).length L.length (X.length)) (some ⟨gb, 0, none⟩) L.length (L) := HFN.out.box.2.set2 HFN.out.r2
            have zs : Src W b (wr2 Y6 w.heap.size (some ⟨gb, 0, none⟩) (L).length L.length (X.length)) := Src.grown (Src.grown HFN.out.src (grown_set0 _ _ _ _) (fun g e => by injection e with e; subst e; exact ⟨G2.out.2, G2.out.1⟩)) (grown_set0 _ _ _ _) (fun g e => by injection e with e; subst e; exact ⟨G2.out.2, G2.out.1⟩)
            have zg : w.grownBy (wr2 Y6 w.heap.size (some ⟨gb, 0, none⟩) (L).length L.length (X.length)) (some b) := grown_new (grown_new HFN.out.gro (Nat.le_refl _) 0 _) (Nat.le_refl _) 1 _
            clear HFN p0 p1 q0 q1 f0 f1
            change bodyPost _ _ _ _ _ (wr2 Y6 w.heap.size (some ⟨gb, 0, none⟩) (L).length L.length (X.length))
            generalize wr2 Y6 w.heap.size (some ⟨gb, 0, none⟩) (L).length L.length (X.length) = V9 at zr zp zs zg ⊢
            obtain ⟨k7, k8⟩ := row2 zr
            have ZP := Lib.hid zp
            have ZS := Lib.hid zs
            have ZG := Lib.hid zg
            clear zr zp zs zg
            exact bodyPost_ret (v := .agg #[.slice (some ⟨gb, 0, none⟩) (L).length L.length, .int .i64 (X.length)]) (by simp [results, Try.results10, go_sem, k7, k8]) rfl ⟨(some ⟨gb, 0, none⟩), L.length, L, X.length, rfl, ZP.out, ZS.out, ZG.out, by omega, by omega, by omega⟩

end Go.Proofs.Ytjabnicflpeopaa
