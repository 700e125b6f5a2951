/- The contract of Addresses of the program. -/
import Derived.Test.YteccblhmpggcgaaDoorSame
import Derived.Laws.OwnMore
import Derived.StillTailTactics
import Derived.OwnWalk
namespace Go.Proofs.YteccblhmpggcgaaDoor
open Go.RowKit

theorem grown_below {a b : World} {r : Option Nat} (h : Below a.heap.size a b) : a.grownBy b r := ⟨h.os, h.tape, h.output, h.size, fun i hi _ => h.block i hi⟩
theorem own_ne {w : World} {base size n g : Nat} {e t : TypeId} {v : Value} {xs : List Value} {cs : Array Value} (h : w.ownsRow base e size v n xs) (hr : Row w g t cs) (hne : e ≠ t) : some g ≠ v.ownBlock := by
  rcases h.2 with ⟨rfl, _⟩ | ⟨g', cap, cur, rfl, _, hh, _⟩
  · simp [Value.ownBlock]
  · intro he
    have : g = g' := by simpa [Value.ownBlock] using he
    subst this
    unfold Row at hr
    rw [hr] at hh
    injection hh with hh
    injection hh with _ ht
    exact hne ht.symm
theorem own_under {w w' : World} {base size n : Nat} {e : TypeId} {v : Value} {xs : List Value} (h : w.ownsRow base e size v n xs) (hb : Below w.heap.size w w') : w'.ownsRow base e size v n xs := by
  refine h.kept (row := none) (grown_below hb) ?_
  cases hv : v.ownBlock
  · exact .inl rfl
  · exact .inr (by simp)
theorem below_own {a b c : World} {B size n : Nat} {e : TypeId} {v : Value} {xs : List Value} (h : Below B a b) (hB : B ≤ b.heap.size) (ho : b.ownsRow B e size v n xs) (k : b.grownBy c v.ownBlock) : Below B a c :=
  ⟨k.os.trans h.os, k.tape.trans h.tape, k.output.trans h.output, Nat.le_trans h.size k.size, fun i hi => (k.block i (by omega) (fun e => by have := (ho.lt i e.symm).1; omega)).trans (h.block i hi)⟩
/-- The address on g, as cells. -/
def pl (f : Nat) (a b c : Int) (g : Nat) : List Value := [.int .i64 g, .int .i64 (Ico.wt f a b c (Ico.cor g 0)), .int .i64 (Ico.wt f a b c (Ico.cor g 1)), .int .i64 (Ico.wt f a b c (Ico.cor g 2))]
/-- All cells below n. -/
def pls (f : Nat) (a b c : Int) (n : Nat) : List Value := (Ico.fcs f a b c n).flatMap (pl f a b c)
theorem pls_yes {f : Nat} {a b c : Int} {n : Nat} (h : Ico.ok f a b c n = true) : pls f a b c (n + 1) = pls f a b c n ++ pl f a b c n := by
  unfold pls; rw [Ico.fcs_succ_yes h, List.flatMap_append]; simp
theorem pls_no {f : Nat} {a b c : Int} {n : Nat} (h : Ico.ok f a b c n = false) : pls f a b c (n + 1) = pls f a b c n := by
  unfold pls; rw [Ico.fcs_succ_no h]
theorem len_yes {f : Nat} {a b c : Int} {n : Nat} (h : Ico.ok f a b c n = true) : (Ico.fcs f a b c (n + 1)).length = (Ico.fcs f a b c n).length + 1 := by rw [Ico.fcs_succ_yes h]; simp
theorem len_no {f : Nat} {a b c : Int} {n : Nat} (h : Ico.ok f a b c n = false) : (Ico.fcs f a b c (n + 1)).length = (Ico.fcs f a b c n).length := by rw [Ico.fcs_succ_no h]
/-- What is known while the faces are gone through. -/
structure Going (W : World) (f : Nat) (a b c : Int) (gw : Nat) (n : Nat) (v : Value) (w : World) : Prop where
  below : Below W.heap.size W w
  row : Row w gw 54 (wa f a b c)
  own : w.ownsRow W.heap.size 23 4 v (Ico.fcs f a b c n).length (pls f a b c n)
theorem Going.under {W w w' : World} {f gw n : Nat} {a b c : Int} {v : Value} (h : Going W f a b c gw n v w) (hb : Below w.heap.size w w') : Going W f a b c gw n v w' :=
  ⟨h.below.trans (hb.mono h.below.size), h.row.under hb, own_under h.own hb⟩
theorem Going.alloc {W w : World} {f gw n : Nat} {a b c : Int} {v : Value} (h : Going W f a b c gw n v w) (o : Obj) : Going W f a b c gw n v (w.alloc o) := h.under ((Below.refl _ _).alloc (Nat.le_refl _) o)
theorem Going.drew {W w : World} {f gw n : Nat} {a b c : Int} {v : Value} (h : Going W f a b c gw n v w) : Going W f a b c gw n v w.drew := ⟨h.below.drew, h.row, h.own⟩
theorem Going.no {W w : World} {f gw n : Nat} {a b c : Int} {v : Value} (h : Going W f a b c gw n v w) (ho : Ico.ok f a b c n = false) : Going W f a b c gw (n + 1) v w :=
  ⟨h.below, h.row, by rw [pls_no ho, len_no ho]; exact h.own⟩
theorem Going.yes {W w w' : World} {f gw n : Nat} {a b c : Int} {v v' : Value} (h : Going W f a b c gw n v w) (ho : Ico.ok f a b c n = true)
    (hown : w'.ownsRow W.heap.size 23 4 v' ((Ico.fcs f a b c n).length + 1) (pls f a b c n ++ pl f a b c n)) (hg : w.grownBy w' v.ownBlock) : Going W f a b c gw (n + 1) v' w' :=
  ⟨below_own h.below h.below.size h.own hg, h.row.grown hg (own_ne h.own h.row (by decide)), by rw [pls_yes ho, len_yes ho]; exact hown⟩
theorem vb_on {f n : Nat} {a b c : Int} (h : Ico.Vld f a b c) (hn : n < 20) : vb n (Ico.wt f a b c (Ico.cor n 0)) (Ico.wt f a b c (Ico.cor n 1)) (Ico.wt f a b c (Ico.cor n 2)) = Ico.ok f a b c n := by
  have h0 := Ico.wt_bd h (Ico.cor n 0)
  have h1 := Ico.wt_bd h (Ico.cor n 1)
  have h2 := Ico.wt_bd h (Ico.cor n 2)
  unfold vb Ico.ok Ico.sm
  rw [decide_eq_decide]
  exact ⟨fun k => k.2.2.2.2.2.2.2.2, fun k => ⟨by omega, by omega, h0.1, h0.2, h1.1, h1.2, h2.1, h2.2, k⟩⟩
theorem row_news {w : World} {g : Nat} {t : TypeId} {x y z u : Value} (h : Row w g t #[x, y, z, u]) : ∀ (j : Nat) (v : Value), [x, y, z, u][j]? = some v → w.cell? ((⟨g, 0, none⟩ : Addr).add j) = some v := by
  intro j v hv
  have e : (⟨g, 0, none⟩ : Addr).add j = ⟨g, j, none⟩ := by unfold Addr.add; cases j <;> simp
  rw [e, h.cell j, ← hv]
  simp
theorem pl_one (f : Nat) (a b c : Int) (g : Nat) : ∀ u ∈ pl f a b c g, u.oneCell' = true := by
  intro u hu
  simp only [pl, List.mem_cons, List.not_mem_nil, or_false] at hu
  rcases hu with rfl | rfl | rfl | rfl <;> rfl
theorem infoPlace : (Tryd.prog.info? 23).map (fun i => (i.zero, i.size, i.bytes)) = some (some (.agg #[.int .i64 0, .int .i64 0, .int .i64 0, .int .i64 0]), 4, 32) := by kernel_rfl

set_option maxRecDepth 100000 in
set_option maxHeartbeats 2000000 in
theorem addresses_no (F a b c : Int) (w : World) (hv : vb F a b c = false) :
    Calls Tryd.prog 15 #[.agg #[.int .i64 F, .int .i64 a, .int .i64 b, .int .i64 c]] w fun e w' => e = .returned (.tuple #[.slice none 0 0, .int .i64 1]) ∧ Below w.heap.size w w' := by
  go_enter Tryd.func15, Tryd.ntmps15
  go_wp2_with (go_at_call 20; refine (valid_from _ _ _ _ w _ ((Below.refl _ _).alloc (Nat.le_refl _) _)).mono ?_; rintro e w2 ⟨rfl, hb2⟩)
  go_ret2
  exact ⟨rfl, hb2⟩
set_option maxRecDepth 100000 in
set_option maxHeartbeats 2000000 in
theorem addresses_yes (f : Nat) (a b c : Int) (w : World) (hv : Ico.Vld f a b c) :
    Calls Tryd.prog 15 #[.agg #[.int .i64 f, .int .i64 a, .int .i64 b, .int .i64 c]] w fun e w' => ∃ v, e = .returned (.tuple #[v, .int .i64 0]) ∧ Below w.heap.size w w' ∧ w'.ownsRow w.heap.size 23 4 v (Ico.fcs f a b c 20).length (pls f a b c 20) := by
  obtain ⟨i0, hi, hz0, hz1, hz2⟩ := info_parts infoPlace
  have v1 := vb_of hv
  have HV := Lib.hid hv
  have hf := hv.1
  clear hv
  go_enter Tryd.func15, Tryd.ntmps15
  go_wp2_with fail
  have k0 := Row.new w #[.int .i64 f, .int .i64 a, .int .i64 b, .int .i64 c] 23
  refine (valid_from _ _ _ _ _ _ (Below.refl _ _)).mono ?_
  rintro e w2 ⟨rfl, hb2⟩
  have k2 := k0.under hb2
  have b2 : Below w.heap.size w w2 := ((Below.refl _ _).alloc (Nat.le_refl _) _).trans (hb2.mono (by simp))
  clear k0 hb2
  obtain ⟨p0, p1, p2, p3⟩ := row4 k2
  go_wp2_with fail
  refine (weights_is _ _ _ _ _ _ (Below.refl _ _) hf).mono ?_
  rintro e w3 ⟨rfl, hb3⟩
  have b3 := b2.trans (hb3.mono b2.size)
  clear b2 hb3 k2 p0 p1 p2 p3
  go_wp2_with fail
  have G0 : Going w f a b c w3.heap.size 0 (.slice none 0 0) (w3.alloc (.cells (wa f a b c) 54)) := ⟨b3.alloc b3.size _, Row.new _ _ _, World.ownsRow_nil _ _ _ _⟩
  clear b3
  generalize w3.heap.size = gw at *
  go_loopw [5, 14] (fun v i wr => ∃ n : Nat, n ≤ 20 ∧ i = .int .i64 n ∧ Going w f a b c gw n v wr) (fun _ i _ => 20 - (intOf i).toNat)
  case atStart => exact ⟨0, by omega, rfl, G0⟩
  case round =>
    clear G0
    obtain ⟨n, hn, rfl, G⟩ := hrel
    by_cases hlt : n < 20
    · go_upto_region 9 with (go_at_call 34; refine (cornersOf_any _ _ hlt).mono ?_; rintro e w4 ⟨rfl, hb4⟩)
      have G4 := (G.under hb4).alloc (.cells #[.int .i64 (Ico.cor n 0), .int .i64 (Ico.cor n 1), .int .i64 (Ico.cor n 2)] 43)
      have r4 := Row.new w4 #[.int .i64 (Ico.cor n 0), .int .i64 (Ico.cor n 1), .int .i64 (Ico.cor n 2)] 43
      refine forget (fun Y => Going w f a b c gw n «u5» Y ∧ Row Y w4.heap.size 43 #[.int .i64 (Ico.cor n 0), .int .i64 (Ico.cor n 1), .int .i64 (Ico.cor n 2)]) ⟨G4, r4⟩ ?_
      clear G G4 r4 hb4
      generalize w4.heap.size = go at *
      rintro Y ⟨G, r4⟩
      obtain ⟨q0, q1, q2⟩ := row3 r4
      have l0 := Ico.cor_lt n 0
      have l1 := Ico.cor_lt n 1
      have l2 := Ico.cor_lt n 2
      have m0 := (G.row.cell (Ico.cor n 0)).trans (wa_at f a b c _ l0)
      have m1 := (G.row.cell (Ico.cor n 1)).trans (wa_at f a b c _ l1)
      have m2 := (G.row.cell (Ico.cor n 2)).trans (wa_at f a b c _ l2)
      have n0 : (0 : Int) ≤ (Ico.cor n 0 : Int) ∧ (Ico.cor n 0 : Int) < 12 := by omega
      have n1 : (0 : Int) ≤ (Ico.cor n 1 : Int) ∧ (Ico.cor n 1 : Int) < 12 := by omega
      have n2 : (0 : Int) ≤ (Ico.cor n 2 : Int) ∧ (Ico.cor n 2 : Int) < 12 := by omega
      obtain ⟨n00, n01⟩ := n0
      obtain ⟨n10, n11⟩ := n1
      obtain ⟨n20, n21⟩ := n2
      go_region_held3 (fun w' => (w'.cell? ⟨go, 0, none⟩ = some (.int .i64 (Ico.cor n 0)) ∧ w'.cell? ⟨go, 1, none⟩ = some (.int .i64 (Ico.cor n 1)) ∧ w'.cell? ⟨go, 2, none⟩ = some (.int .i64 (Ico.cor n 2))) ∧ w'.cell? ⟨gw, Ico.cor n 0, none⟩ = some (.int .i64 (Ico.wt f a b c (Ico.cor n 0))) ∧ w'.cell? ⟨gw, Ico.cor n 1, none⟩ = some (.int .i64 (Ico.wt f a b c (Ico.cor n 1))) ∧ w'.cell? ⟨gw, Ico.cor n 2, none⟩ = some (.int .i64 (Ico.wt f a b c (Ico.cor n 2))))
        (go_keep) (fail)
      go_upto_region 10 with fail
      refine forget (fun Z => Going w f a b c gw n «u5» Z ∧ Row Z Y.heap.size 23 #[.int .i64 n, .int .i64 (Ico.wt f a b c (Ico.cor n 0)), .int .i64 (Ico.wt f a b c (Ico.cor n 1)), .int .i64 (Ico.wt f a b c (Ico.cor n 2))]) ⟨(G.alloc _).drew, (Row.new _ _ _).drew⟩ ?_
      clear G r4 q0 q1 q2 m0 m1 m2 n00 n01 n10 n11 n20 n21
      generalize Y.heap.size = gq at *
      rintro Z ⟨G, r⟩
      obtain ⟨q0, q1, q2, q3⟩ := row4 r
      cases ho : Ico.ok f a b c n
      · have V := Lib.hid ((vb_on HV.out hlt).trans ho); have HO := Lib.hid ho; clear ho
        go_wp2_with fail
        refine (valid_is _ _ _ _ _ _ _ (Below.refl _ _) V.out).mono ?_
        rintro e w5 ⟨rfl, hb5⟩
        go_wp2_with fail
        go_roundw
        case rel => exact ⟨n + 1, by omega, by go_num, (G.under hb5).no HO.out⟩
        case measure => simp [intOf]; omega
      · have V := Lib.hid ((vb_on HV.out hlt).trans ho); have HO := Lib.hid ho; clear ho
        go_wp2_with fail
        refine (valid_is _ _ _ _ _ _ _ (Below.refl _ _) V.out).mono ?_
        rintro e w5 ⟨rfl, hb5⟩
        have G5 := G.under hb5
        have r5 := r.under hb5
        clear G r q0 q1 q2 q3 hb5
        obtain ⟨q0, q1, q2, q3⟩ := row4 r5
        have G6 := G5.alloc (.cells #[.int .i64 n, .int .i64 (Ico.wt f a b c (Ico.cor n 0)), .int .i64 (Ico.wt f a b c (Ico.cor n 1)), .int .i64 (Ico.wt f a b c (Ico.cor n 2))] 23)
        have r6 := Row.new w5 #[.int .i64 n, .int .i64 (Ico.wt f a b c (Ico.cor n 0)), .int .i64 (Ico.wt f a b c (Ico.cor n 1)), .int .i64 (Ico.wt f a b c (Ico.cor n 2))] 23
        have R6 := Lib.hid r6; clear r6 r5
        have HG := Lib.hid G6; clear G6 G5
        have hl := Ico.fcs_len_le f a b c n
        go_wp2_with (at_builtin; refine wpList_append_own _ rfl (.tmp 35) (.tmp 37) 30 rfl w.heap.size 23 i0 _ 4 32 Tryd.underlying30 hi hz0 hz1 hz2 rfl (by decide) _ _ _ rfl HG.out.own ⟨w5.heap.size, 0, none⟩ 1 1 (pl f a b c n) rfl rfl (row_news R6.out) (pl_one f a b c n) (by unfold maxLen; omega) (by omega) HG.out.below.size ?_)
        intro v' w6 hown hgr _
        have G7 := HG.out.yes HO.out hown hgr
        clear hown hgr
        have HG7 := Lib.hid G7; clear G7
        go_wp2_with fail
        go_roundw
        case rel => exact ⟨n + 1, by omega, by go_num, HG7.out⟩
        case measure => simp [intOf]; omega
    · obtain rfl : n = 20 := by omega
      have HG := Lib.hid G; clear G
      go_wp2_with fail
      go_ret2
      exact ⟨_, rfl, HG.out.below, HG.out.own⟩
end Go.Proofs.YteccblhmpggcgaaDoor
