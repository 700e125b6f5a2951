/- Contract of the program's Format of reports. -/
import Derived.Test.YtfnlgfacadmjpaaGreatDoorEWith
namespace Go.Proofs.YtfnlgfacadmjpaaGreatDoor
open Go.RowKit

theorem infoString : (Tryz.prog.info? 9).map (fun i => (i.zero, i.size, i.bytes)) = some (some (.string ByteArray.empty), 1, 16) := by kernel_rfl
/-- A list of words in memory of its own. -/
structure Wl (w0 : World) (ws : List (List UInt8)) (v : Value) (w : World) : Prop where
  below : Below w0.heap.size w0 w
  own : w.ownsRow w0.heap.size 9 1 v ws.length (ws.map fun x => Value.string (S x))
theorem Wl.under {w0 w w' : World} {ws : List (List UInt8)} {v : Value} (h : Wl w0 ws v w) (hb : Below w.heap.size w w') : Wl w0 ws v w' := ⟨h.below.trans (hb.mono h.below.size), El.own_under h.own hb⟩
theorem Wl.more {w0 w w' : World} {ws : List (List UInt8)} {v v' : Value} {x : List UInt8} (h : Wl w0 ws v w)
    (hown : w'.ownsRow w0.heap.size 9 1 v' (ws.length + 1) ((ws.map fun x => Value.string (S x)) ++ [.string (S x)])) (hg : w.grownBy w' v.ownBlock) : Wl w0 (ws ++ [x]) v' w' :=
  ⟨El.below_own h.below h.below.size h.own hg, by rw [List.length_append, List.map_append]; exact hown⟩
theorem join_len (ws : List (List UInt8)) (n m : Nat) (hn : ws.length ≤ n) (hm : ∀ x ∈ ws, x.length ≤ m) : (Lib.join ws [32]).length ≤ n * (m + 1) := by
  induction ws generalizing n with
  | nil => simp [Lib.join_nil]
  | cons x r ih =>
    cases n with
    | zero => simp at hn
    | succ n =>
      have h1 := hm x (by simp)
      have h2 := ih n (by simpa using hn) (fun y hy => hm y (by simp [hy]))
      cases r with
      | nil => rw [Lib.join_one]; rw [Nat.succ_mul]; omega
      | cons y r =>
        have e : Lib.join (x :: y :: r) [32] = x ++ 32 :: Lib.join (y :: r) [32] := by
          rw [Lib.join_cons, Lib.join_cons]; simp [Lib.joinTail]
        rw [e, List.length_append, List.length_cons, Nat.succ_mul]; omega
theorem join_own {w0 w : World} {ws : List (List UInt8)} {v : Value} (h : Wl w0 ws v w) (h1 : 1 ≤ ws.length) (h2 : ws.length ≤ 20) (hm : ∀ x ∈ ws, x.length ≤ 100) :
    Calls Tryz.prog 66 #[v, .string ⟨#[32]⟩] w fun e w' => e = .returned (.string (S (Lib.join ws [32]))) ∧ Below w.heap.size w w' := by
  obtain ⟨g, cap, rfl, hB, hg, hc, -, hcell⟩ := Pl.own_open h.own (by omega)
  have e1 : (ws.map S).map (·.data.toList) = ws := by rw [List.map_map]; exact (List.map_congr_left fun x _ => S_list x).trans (List.map_id _)
  have hj := Tryz.strings_Join g 0 cap (ws.map S) ⟨#[32]⟩ w (fun j x hx => by
    rw [Nat.zero_add]
    refine hcell j _ ?_
    rw [List.getElem?_map] at hx ⊢
    obtain ⟨y, hy, rfl⟩ := Option.map_eq_some_iff.1 hx
    rw [hy]; rfl) hg (by rw [List.length_map]; omega) (by rw [List.length_map]; omega) (by
      rw [e1]
      have := join_len ws 20 100 h2 hm
      exact Nat.le_trans this (by omega))
  rw [e1, List.length_map] at hj
  exact hj
theorem kind_cases {k : Int} (h : 1 ≤ k ∧ k ≤ 3) : k = 1 ∨ k = 2 ∨ k = 3 := by omega
theorem kw_len (k : Int) : (kw k).length ≤ 100 := by
  unfold kw kws
  rcases h : (k - 1).toNat with _ | _ | _ | n <;> simp [List.getD]
theorem wds_short {k : Int} {nm : ByteArray} {t F A B C : Int} {L : List El.Elt.R} (h : Vd k nm t F A B C L) : ∀ x ∈ wds k nm t F A B L, x.length ≤ 100 := by
  intro x hx
  unfold wds at hx
  simp only [List.cons_append, List.nil_append, List.mem_cons, List.mem_append, List.mem_map] at hx
  rcases hx with rfl | rfl | rfl | hx | ⟨r, hr, rfl⟩
  · exact kw_len k
  · have h5 := h.name
    unfold nameOk at h5
    rw [Bool.and_eq_true, decide_eq_true_iff] at h5
    have : nm.data.toList.length = nm.size := by simp
    omega
  · show (stp t).length ≤ 100
    unfold stp; simp [dig2_len]
  · split at hx
    · cases hx
    · rw [List.mem_singleton] at hx; subst hx; rw [Pl.txt_length]; omega
  · have hv := (vld_zero h.list).1 r hr
    have := El.Elt.tail_len hv
    unfold El.Elt.txt; rw [List.length_cons]; omega
theorem cellsF {Y X : World} {g : Nat} {ty : TypeId} {k : Int} {nm : ByteArray} {t F A B C : Int} {u s : Value} {j : Nat} (r : Row Y g ty (repC k nm t F A B C u)) (hk : Y.cell? ⟨0, j, none⟩ = some s) (hb : Below Y.drew.heap.size Y.drew X) :
    X.cell? ⟨g, 0, none⟩ = some (.int .i64 k) ∧ X.cell? ⟨g, 1, none⟩ = some (.string nm) ∧ X.cell? ⟨g, 2, none⟩ = some (.int .i64 t) ∧ X.cell? ⟨0, j, none⟩ = some s := by
  obtain ⟨c0, c1, c2, -⟩ := row8 (r.drew.under hb)
  exact ⟨c0, c1, c2, (hb.cell (p := ⟨0, j, none⟩) (World.block_lt_of_cell? Y _ hk)).trans hk⟩
theorem Wl.lit {w0 w3 : World} (hb : Below w0.heap.size w0 w3) (a b c : List UInt8) (nm : ByteArray) (hn : S b = nm) : Wl w0 [a, b, c] (.slice (some ⟨w3.heap.size, 0, none⟩) 3 3) (w3.alloc (.cells #[.string (S a), .string nm, .string (S c)] 9)) := by
  subst hn
  exact ⟨hb.alloc hb.size _, World.ownsRow_lit w3 #[.string (S a), .string (S b), .string (S c)] 3 hb.size (by decide) rfl⟩
set_option maxRecDepth 100000 in
set_option maxHeartbeats 8000000 in
theorem format_yes (k : Int) (nm : ByteArray) (t F A B C : Int) (u : Value) (L : List El.Elt.R) (w : World) (hL : El.RdIn w u L) (hE : Env w) (hV : Vd k nm t F A B C L) :
    Calls Tryz.prog 38 #[repV k nm t F A B C u] w fun e w' => e = .returned (.tuple #[.string (S (gtx k nm t F A B L)), .int .i64 0]) ∧ Below w.heap.size w w' := by
  obtain ⟨nl, rfl⟩ : ∃ nl, nm = S nl := ⟨nm.data.toList, (S_of nm).symm⟩
  have b1 := (Below.refl w.heap.size w).alloc (Nat.le_refl _) (.cells (repC k (S nl) t F A B C u) 53)
  have r1 := Row.new w (repC k (S nl) t F A B C u) 53
  have hE1 := hE.under b1
  have hL1 := hL.under b1
  obtain ⟨i0, hi, hz0, hz1, hz2⟩ := info_parts infoString
  have HC := Lib.hid hV.code
  have hll := vld_len hV.list
  have HVL := Lib.hid (vld_zero hV.list).1
  have HG := Lib.hid (show gtx k (S nl) t F A B L = Lib.join (wds k (S nl) t F A B L) [32] from rfl)
  have hbd := Lib.hid (wds_short hV)
  have ht := hV.time
  have HS := Lib.hid (fun w hT => stamp_any t w hT ht)
  have HP := Lib.hid hV.place
  have hk := hV.kind
  have HW := Lib.hid (show wds k (S nl) t F A B L = ([kw k, nl, stp t] ++ (if k = 1 then [] else [Pl.txt F.toNat A B])) ++ L.map fun r => El.Elt.txt r.1 r.2 by unfold wds; rw [S_list])
  generalize wds k (S nl) t F A B L = wd at *
  generalize gtx k (S nl) t F A B L = gt at *
  generalize stp t = st at *
  generalize hnm : S nl = nm at *
  clear hV ht
  go_enter Tryz.func38, Tryz.ntmps38
  go_wp2_with fail
  generalize hW1 : w.alloc (.cells (repC k nm t F A B C u) 53) = W1 at *
  refine (validate_is k nm t F A B C u L 0 _ hL1 hE1.tab HC.out).mono ?_
  rintro e wv ⟨rfl, g2⟩
  have bv := b1.trans (g2.mono b1.size)
  have rv := r1.under g2
  have hEv := hE1.under g2
  obtain ⟨AA, cap, rfl, hcap1, hcap2, hR⟩ := hL
  have HR := Lib.hid hR
  clear hR
  clear g2 b1 r1 hL1 hE1 hW1 HC
  obtain ⟨c0, c1, c2, c3, c4, c5, c6, c7⟩ := row8 rv
  go_wp2_with fail
  refine (HS.out _ hEv.ck).mono ?_
  rintro e w2 ⟨rfl, g2⟩
  have b2 := bv.trans (g2.mono bv.size)
  have r2 := rv.under g2
  have hE2 := hEv.under g2
  clear g2 bv rv hEv c0 c1 c2 c3 c4 c5 c6 c7
  obtain ⟨c0, c1, c2, c3, c4, c5, c6, c7⟩ := row8 r2
  go_upto_region 5 with fail
  clear c0 c1 c2 c3 c4 c5 c6 c7
  have kc := hE2.kd (k - 1).toNat (by omega)
  have hkw : S (kws.getD (k - 1).toNat []) = S (kw k) := rfl
  rw [hkw] at kc
  clear hkw
  have hb2 := Below.refl w2.drew.heap.size w2.drew
  have R2 := Lib.hid r2
  have KC := Lib.hid kc
  have B2 := Lib.hid b2
  have E2 := Lib.hid hE2
  obtain ⟨c0, c1, c2, c3⟩ := cellsF r2 kc hb2
  have hlt := r2.lt
  clear r2 kc b2 hE2
  have HNM := Lib.hid hnm; clear hnm
  go_cut [7] from 25 to 33 (fun p wc => Wl w [kw k, nl, st] p wc ∧ Row wc w.heap.size 53 (repC k nm t F A B C (.slice AA L.length cap)))
  case first =>
    rcases kind_cases hk with rfl | rfl | rfl
    · have xw : IntKind.i64.wrap 0 = 0 := by decide
      have c3 : w2.drew.cell? ⟨0, 0, none⟩ = some (.string (S (kw 1))) := c3
      refine wp_region_held_drew (S := fun w' : World => w'.cell? ⟨w.heap.size, 0, none⟩ = some (.int .i64 1) ∧ w'.cell? ⟨w.heap.size, 1, none⟩ = some (.string nm) ∧ w'.cell? ⟨w.heap.size, 2, none⟩ = some (.int .i64 t) ∧ w'.cell? ⟨0, 0, none⟩ = some (.string (S (kw 1)))) (by kernel_rfl) ⟨c0, c1, c2, c3⟩ (fun hHeld => ?_)
      refine wpAnyH_take (i := 0) (v := ?_) rfl (by kernel_rfl) (by kernel_rfl) (by kernel_rfl) (fun _ _ _ h => h) (Or.inl ⟨by rfl, ?_⟩) (by assumption) ?_
      case refine_2 => (intro wx hSx; (try dsimp only at hSx); go_simp; first | done | with_reducible rfl)
      try simp only [Act.put]
      refine wpAnyH_take (i := 1) (v := ?_) rfl (by kernel_rfl) (by kernel_rfl) (by kernel_rfl) (fun _ _ _ h => h) (Or.inl ⟨by rfl, ?_⟩) (by assumption) ?_
      case refine_2 => (intro wx hSx; (try dsimp only at hSx); go_simp; first | done | with_reducible rfl)
      try simp only [Act.put]
      refine wpAnyH_take (i := 2) (v := ?_) rfl (by kernel_rfl) (by kernel_rfl) (by kernel_rfl) (fun _ _ _ h => h) (Or.inl ⟨by rfl, ?_⟩) (by assumption) ?_
      case refine_2 => (intro wx hSx; (try dsimp only at hSx); go_simp; first | done | with_reducible rfl)
      try simp only [Act.put]
      refine wpAnyH_take (i := 3) (v := ?_) rfl (by kernel_rfl) (by kernel_rfl) (by kernel_rfl) (fun _ _ _ h => h) (Or.inl ⟨by rfl, ?_⟩) (by assumption) ?_
      case refine_2 => (intro wx hSx; (try dsimp only at hSx); go_simp; first | done | with_reducible rfl)
      try simp only [Act.put]
      refine wpAnyH_take (i := 4) (v := ?_) rfl (by kernel_rfl) (by kernel_rfl) (by kernel_rfl) (fun _ _ _ h => h) (Or.inl ⟨by rfl, ?_⟩) (by assumption) ?_
      case refine_2 => (intro wx hSx; (try dsimp only at hSx); go_simp; first | done | with_reducible rfl)
      try simp only [Act.put]
      refine wpAnyH_take (i := 5) (v := ?_) rfl (by kernel_rfl) (by kernel_rfl) (by kernel_rfl) (fun _ _ _ h => h) (Or.inl ⟨by rfl, ?_⟩) (by assumption) ?_
      case refine_2 => (intro wx hSx; (try dsimp only at hSx); go_simp; first | done | with_reducible rfl)
      try simp only [Act.put]
      refine wpAnyH_take (i := 6) (v := ?_) rfl (by kernel_rfl) (by kernel_rfl) (by kernel_rfl) (fun _ _ _ h => h) (Or.inl ⟨by rfl, ?_⟩) (by assumption) ?_
      case refine_2 => (intro wx hSx; (try dsimp only at hSx); go_simp; first | done | with_reducible rfl)
      try simp only [Act.put]
      refine wpAnyH_take (i := 7) (oi := ⟨some 32, _, _, _, _, none⟩) (v := ?_) rfl (by kernel_rfl) (by kernel_rfl) (by kernel_rfl) (fun _ _ _ h => h) (Or.inl ⟨by rfl, ?_⟩) (by assumption) ?_
      case refine_2 => (intro wx hSx; (try dsimp only at hSx); go_simp; first | done | with_reducible rfl)
      try simp only [Act.put]
      have b3 := hb2.alloc hb2.size (.cells #[.string (S (kw 1)), .string nm, .string (S st)] 9)
      refine wpAnyH_ready (rs := [8]) (by kernel_rfl) (by simp) ?_
      refine AllReadyH.cons (o := ⟨some 33, _, _, _, _, none⟩) rfl (fun K hK => ?_) AllReadyH.nil
      go_simp
      refine hK.out _ _ (cellsF R2.out KC.out b3) (fun hHeld3 => ?_)
      clear hK K hHeld b3
      try simp only [Act.put]
      refine wpAnyH_take (i := 9) (oi := ⟨some 7, _, _, _, _, none⟩) (v := ?_) rfl (by kernel_rfl) (by kernel_rfl) (by kernel_rfl) (fun _ _ _ h => h) (Or.inl ⟨by rfl, ?_⟩) (by assumption) ?_
      case refine_2 => (intro wx hSx; (try dsimp only at hSx); go_simp; first | done | with_reducible rfl)
      try simp only [Act.put]
      refine wpAnyH_done (by kernel_rfl) ?_ _
      go_wp2_with fail
      go_meet
      exact ⟨Wl.lit (B2.out.trans ((undrew hb2).mono B2.out.size)) _ _ _ _ HNM.out, (R2.out.under (undrew hb2)).alloc _⟩
    · have xw : IntKind.i64.wrap 1 = 1 := by decide
      have c3 : w2.drew.cell? ⟨0, 1, none⟩ = some (.string (S (kw 2))) := c3
      refine wp_region_held_drew (S := fun w' : World => w'.cell? ⟨w.heap.size, 0, none⟩ = some (.int .i64 2) ∧ w'.cell? ⟨w.heap.size, 1, none⟩ = some (.string nm) ∧ w'.cell? ⟨w.heap.size, 2, none⟩ = some (.int .i64 t) ∧ w'.cell? ⟨0, 1, none⟩ = some (.string (S (kw 2)))) (by kernel_rfl) ⟨c0, c1, c2, c3⟩ (fun hHeld => ?_)
      refine wpAnyH_take (i := 0) (v := ?_) rfl (by kernel_rfl) (by kernel_rfl) (by kernel_rfl) (fun _ _ _ h => h) (Or.inl ⟨by rfl, ?_⟩) (by assumption) ?_
      case refine_2 => (intro wx hSx; (try dsimp only at hSx); go_simp; first | done | with_reducible rfl)
      try simp only [Act.put]
      refine wpAnyH_take (i := 1) (v := ?_) rfl (by kernel_rfl) (by kernel_rfl) (by kernel_rfl) (fun _ _ _ h => h) (Or.inl ⟨by rfl, ?_⟩) (by assumption) ?_
      case refine_2 => (intro wx hSx; (try dsimp only at hSx); go_simp; first | done | with_reducible rfl)
      try simp only [Act.put]
      refine wpAnyH_take (i := 2) (v := ?_) rfl (by kernel_rfl) (by kernel_rfl) (by kernel_rfl) (fun _ _ _ h => h) (Or.inl ⟨by rfl, ?_⟩) (by assumption) ?_
      case refine_2 => (intro wx hSx; (try dsimp only at hSx); go_simp; first | done | with_reducible rfl)
      try simp only [Act.put]
      refine wpAnyH_take (i := 3) (v := ?_) rfl (by kernel_rfl) (by kernel_rfl) (by kernel_rfl) (fun _ _ _ h => h) (Or.inl ⟨by rfl, ?_⟩) (by assumption) ?_
      case refine_2 => (intro wx hSx; (try dsimp only at hSx); go_simp; first | done | with_reducible rfl)
      try simp only [Act.put]
      refine wpAnyH_take (i := 4) (v := ?_) rfl (by kernel_rfl) (by kernel_rfl) (by kernel_rfl) (fun _ _ _ h => h) (Or.inl ⟨by rfl, ?_⟩) (by assumption) ?_
      case refine_2 => (intro wx hSx; (try dsimp only at hSx); go_simp; first | done | with_reducible rfl)
      try simp only [Act.put]
      refine wpAnyH_take (i := 5) (v := ?_) rfl (by kernel_rfl) (by kernel_rfl) (by kernel_rfl) (fun _ _ _ h => h) (Or.inl ⟨by rfl, ?_⟩) (by assumption) ?_
      case refine_2 => (intro wx hSx; (try dsimp only at hSx); go_simp; first | done | with_reducible rfl)
      try simp only [Act.put]
      refine wpAnyH_take (i := 6) (v := ?_) rfl (by kernel_rfl) (by kernel_rfl) (by kernel_rfl) (fun _ _ _ h => h) (Or.inl ⟨by rfl, ?_⟩) (by assumption) ?_
      case refine_2 => (intro wx hSx; (try dsimp only at hSx); go_simp; first | done | with_reducible rfl)
      try simp only [Act.put]
      refine wpAnyH_take (i := 7) (oi := ⟨some 32, _, _, _, _, none⟩) (v := ?_) rfl (by kernel_rfl) (by kernel_rfl) (by kernel_rfl) (fun _ _ _ h => h) (Or.inl ⟨by rfl, ?_⟩) (by assumption) ?_
      case refine_2 => (intro wx hSx; (try dsimp only at hSx); go_simp; first | done | with_reducible rfl)
      try simp only [Act.put]
      have b3 := hb2.alloc hb2.size (.cells #[.string (S (kw 2)), .string nm, .string (S st)] 9)
      refine wpAnyH_ready (rs := [8]) (by kernel_rfl) (by simp) ?_
      refine AllReadyH.cons (o := ⟨some 33, _, _, _, _, none⟩) rfl (fun K hK => ?_) AllReadyH.nil
      go_simp
      refine hK.out _ _ (cellsF R2.out KC.out b3) (fun hHeld3 => ?_)
      clear hK K hHeld b3
      try simp only [Act.put]
      refine wpAnyH_take (i := 9) (oi := ⟨some 7, _, _, _, _, none⟩) (v := ?_) rfl (by kernel_rfl) (by kernel_rfl) (by kernel_rfl) (fun _ _ _ h => h) (Or.inl ⟨by rfl, ?_⟩) (by assumption) ?_
      case refine_2 => (intro wx hSx; (try dsimp only at hSx); go_simp; first | done | with_reducible rfl)
      try simp only [Act.put]
      refine wpAnyH_done (by kernel_rfl) ?_ _
      go_wp2_with fail
      go_meet
      exact ⟨Wl.lit (B2.out.trans ((undrew hb2).mono B2.out.size)) _ _ _ _ HNM.out, (R2.out.under (undrew hb2)).alloc _⟩
    · have xw : IntKind.i64.wrap 2 = 2 := by decide
      have c3 : w2.drew.cell? ⟨0, 2, none⟩ = some (.string (S (kw 3))) := c3
      refine wp_region_held_drew (S := fun w' : World => w'.cell? ⟨w.heap.size, 0, none⟩ = some (.int .i64 3) ∧ w'.cell? ⟨w.heap.size, 1, none⟩ = some (.string nm) ∧ w'.cell? ⟨w.heap.size, 2, none⟩ = some (.int .i64 t) ∧ w'.cell? ⟨0, 2, none⟩ = some (.string (S (kw 3)))) (by kernel_rfl) ⟨c0, c1, c2, c3⟩ (fun hHeld => ?_)
      refine wpAnyH_take (i := 0) (v := ?_) rfl (by kernel_rfl) (by kernel_rfl) (by kernel_rfl) (fun _ _ _ h => h) (Or.inl ⟨by rfl, ?_⟩) (by assumption) ?_
      case refine_2 => (intro wx hSx; (try dsimp only at hSx); go_simp; first | done | with_reducible rfl)
      try simp only [Act.put]
      refine wpAnyH_take (i := 1) (v := ?_) rfl (by kernel_rfl) (by kernel_rfl) (by kernel_rfl) (fun _ _ _ h => h) (Or.inl ⟨by rfl, ?_⟩) (by assumption) ?_
      case refine_2 => (intro wx hSx; (try dsimp only at hSx); go_simp; first | done | with_reducible rfl)
      try simp only [Act.put]
      refine wpAnyH_take (i := 2) (v := ?_) rfl (by kernel_rfl) (by kernel_rfl) (by kernel_rfl) (fun _ _ _ h => h) (Or.inl ⟨by rfl, ?_⟩) (by assumption) ?_
      case refine_2 => (intro wx hSx; (try dsimp only at hSx); go_simp; first | done | with_reducible rfl)
      try simp only [Act.put]
      refine wpAnyH_take (i := 3) (v := ?_) rfl (by kernel_rfl) (by kernel_rfl) (by kernel_rfl) (fun _ _ _ h => h) (Or.inl ⟨by rfl, ?_⟩) (by assumption) ?_
      case refine_2 => (intro wx hSx; (try dsimp only at hSx); go_simp; first | done | with_reducible rfl)
      try simp only [Act.put]
      refine wpAnyH_take (i := 4) (v := ?_) rfl (by kernel_rfl) (by kernel_rfl) (by kernel_rfl) (fun _ _ _ h => h) (Or.inl ⟨by rfl, ?_⟩) (by assumption) ?_
      case refine_2 => (intro wx hSx; (try dsimp only at hSx); go_simp; first | done | with_reducible rfl)
      try simp only [Act.put]
      refine wpAnyH_take (i := 5) (v := ?_) rfl (by kernel_rfl) (by kernel_rfl) (by kernel_rfl) (fun _ _ _ h => h) (Or.inl ⟨by rfl, ?_⟩) (by assumption) ?_
      case refine_2 => (intro wx hSx; (try dsimp only at hSx); go_simp; first | done | with_reducible rfl)
      try simp only [Act.put]
      refine wpAnyH_take (i := 6) (v := ?_) rfl (by kernel_rfl) (by kernel_rfl) (by kernel_rfl) (fun _ _ _ h => h) (Or.inl ⟨by rfl, ?_⟩) (by assumption) ?_
      case refine_2 => (intro wx hSx; (try dsimp only at hSx); go_simp; first | done | with_reducible rfl)
      try simp only [Act.put]
      refine wpAnyH_take (i := 7) (oi := ⟨some 32, _, _, _, _, none⟩) (v := ?_) rfl (by kernel_rfl) (by kernel_rfl) (by kernel_rfl) (fun _ _ _ h => h) (Or.inl ⟨by rfl, ?_⟩) (by assumption) ?_
      case refine_2 => (intro wx hSx; (try dsimp only at hSx); go_simp; first | done | with_reducible rfl)
      try simp only [Act.put]
      have b3 := hb2.alloc hb2.size (.cells #[.string (S (kw 3)), .string nm, .string (S st)] 9)
      refine wpAnyH_ready (rs := [8]) (by kernel_rfl) (by simp) ?_
      refine AllReadyH.cons (o := ⟨some 33, _, _, _, _, none⟩) rfl (fun K hK => ?_) AllReadyH.nil
      go_simp
      refine hK.out _ _ (cellsF R2.out KC.out b3) (fun hHeld3 => ?_)
      clear hK K hHeld b3
      try simp only [Act.put]
      refine wpAnyH_take (i := 9) (oi := ⟨some 7, _, _, _, _, none⟩) (v := ?_) rfl (by kernel_rfl) (by kernel_rfl) (by kernel_rfl) (fun _ _ _ h => h) (Or.inl ⟨by rfl, ?_⟩) (by assumption) ?_
      case refine_2 => (intro wx hSx; (try dsimp only at hSx); go_simp; first | done | with_reducible rfl)
      try simp only [Act.put]
      refine wpAnyH_done (by kernel_rfl) ?_ _
      go_wp2_with fail
      go_meet
      exact ⟨Wl.lit (B2.out.trans ((undrew hb2).mono B2.out.size)) _ _ _ _ HNM.out, (R2.out.under (undrew hb2)).alloc _⟩
  case rest =>
  obtain ⟨hw0, rr⟩ := hcut
  have WA := Lib.hid hw0
  clear hw0 c0 c1 c2 c3 hb2 KC E2 R2 B2 HS hlt
  obtain ⟨c0, c1, c2, c3, c4, c5, c6, c7⟩ := row8 rr
  by_cases k1 : k = 1
  · subst k1
    rw [show wd = [kw 1, nl, st] ++ L.map (fun r => El.Elt.txt r.1 r.2) by rw [HW.out]; simp] at HG hbd
    have hlh : [kw 1, nl, st].length ≤ 4 := by simp
    have hlg : 1 ≤ [kw 1, nl, st].length := by simp
    generalize [kw 1, nl, st] = hd at *
    have WX := Lib.hid WA.out
    clear HW HP HNM WA rr hk
    go_wp2_with fail
    go_loopw [7, 11, 12, 13, 50] (fun v _ _ _ t wr => ∃ k : Nat, k ≤ L.length ∧ t = .int .i64 k ∧ Wl w (hd ++ (L.take k).map fun r => El.Elt.txt r.1 r.2) v wr) (fun _ _ _ _ t _ => L.length - (intOf t).toNat)
    case atStart => exact ⟨0, Nat.zero_le _, rfl, by rw [List.take_zero, List.map_nil, List.append_nil]; exact WX.out⟩
    case round =>
      obtain ⟨k, hk, rfl, hw⟩ := hrel
      have HW := Lib.hid hw; clear hw
      by_cases hlt : k < L.length
      · obtain ⟨g, off, rfl, hg, c0, c1⟩ := HR.out k hlt
        have c0 := (HW.out.below.cell (p := ⟨g, off + k * 2, none⟩) hg).trans c0
        have c1 := (HW.out.below.cell (p := ⟨g, off + k * 2 + 1, none⟩) hg).trans c1
        have k0 : (0 : Int) ≤ (k : Int) := by omega
        have k1 : (k : Int) < (L.length : Int) := by omega
        have x1 : IntKind.i64.wrap (k : Int) = (k : Int) := IntWalk.i64_in _ (by omega)
        have hv := Lib.hid (HVL.out _ (List.getElem_mem hlt))
        have hn := Lib.hid (show (hd ++ (L.take (k + 1)).map fun r => El.Elt.txt r.1 r.2) = (hd ++ (L.take k).map fun r => El.Elt.txt r.1 r.2) ++ [El.Elt.txt (L[k]).1 (L[k]).2] by rw [List.take_succ_eq_append_getElem hlt, List.map_append, List.append_assoc]; rfl)
        have hlen : (hd ++ (L.take k).map fun r => El.Elt.txt r.1 r.2).length ≤ 20 := by rw [List.length_append, List.length_map, List.length_take]; omega
        generalize L[k] = x at *
        obtain ⟨x0, x2⟩ := x
        simp only at c0 c1 hv hn
        generalize (hd ++ (L.take k).map fun r => El.Elt.txt r.1 r.2) = ws at *
        have hE4 := hE.under HW.out.below
        have hE5 := hE4.alloc (.cells #[.int .i64 x0, .int .i64 x2] 99)
        have HF := Lib.hid (El.format_yes x0 x2 _ hE5.el hv.out)
        have W5 := Lib.hid (HW.out.under ((Below.refl _ _).alloc (Nat.le_refl _) (.cells #[.int .i64 x0, .int .i64 x2] 99)))
        generalize El.Elt.txt x0 x2 = tx at *
        clear hE4 hE5
        go_wp2_with fail
        refine HF.out.mono ?_
        rintro e w6 ⟨rfl, g6⟩
        have W7 := Lib.hid ((W5.out.under g6).under ((Below.refl _ _).alloc (Nat.le_refl _) (.cells #[.string (S tx)] 9)))
        clear HF W5 g6 HW
        go_wp2_with (at_builtin; refine wpList_append_lies _ rfl (.tmp 59) (.tmp 61) 41 rfl w.heap.size 9 i0 _ 1 16 Tryz.underlying41 hi hz0 hz1 hz2 rfl (by decide) «u7» ws.length _ rfl W7.out.own ⟨w6.heap.size, 0, none⟩ 1 1 [.string (S tx)] rfl rfl (World.news_of_block (cs := #[.string (S tx)]) (t := 9) (fr := (0, 0)) (heap_alloc_new w6 _)) (by simp [Value.oneCell']) (by omega) (by unfold maxLen; omega) (by omega) W7.out.below.size (w6.heap.size + 1) (by simp) ?_; intro g' cap' w8 hown8 hgrow8 hat8 hlt8; have W8 := Lib.hid (W7.out.more (x := tx) hown8 hgrow8); clear hown8 hgrow8 hat8 hlt8)
        go_roundw
        case rel => exact ⟨k + 1, by omega, by go_num, by rw [hn.out]; exact W8.out⟩
        case measure => simp [intOf]; omega
      · have hke : k = L.length := by omega
        have k1 : ¬ ((k : Int) < (L.length : Int)) := by omega
        subst hke
        rw [List.take_length] at HW
        have HJ := Lib.hid (join_own HW.out (by rw [List.length_append, List.length_map]; omega) (by rw [List.length_append, List.length_map]; omega) hbd.out)
        go_wp2_with fail
        refine HJ.out.mono ?_
        rintro e w9 ⟨rfl, g9⟩
        have b9 := HW.out.below.trans (g9.mono HW.out.below.size)
        go_wp2_with fail
        go_ret2
        exact ⟨ret_str2 (by rw [HG.out]), b9⟩
  · have hp := HP.out
    unfold plOk at hp
    rw [if_neg k1] at hp
    unfold nrm at hp
    obtain ⟨f, rfl, hf⟩ := Pl.vb_to (Bool.and_eq_true_iff.1 hp).1
    have hE3 := hE.under WA.out.below
    have HF := Lib.hid (Pl.format_yes f A B C _ hE3.pl hf)
    rw [show wd = ([kw k, nl, st] ++ [Pl.txt f A B]) ++ L.map (fun r => El.Elt.txt r.1 r.2) by rw [HW.out, if_neg k1]; rfl] at HG hbd
    have hl3 := Lib.hid (show [kw k, nl, st].length = 3 from rfl)
    have hlh0 : [kw k, nl, st].length ≤ 3 := Nat.le_refl 3
    have q : (k != 1) = true := by rw [bne_iff_ne]; exact k1
    generalize [kw k, nl, st] = hd0 at *
    generalize Pl.txt f A B = tp at *
    have RR := Lib.hid rr
    clear hp k1 hf HW HP HNM rr hk hE3
    go_wp2_with fail
    refine HF.out.mono ?_
    rintro e w3 ⟨rfl, g3⟩
    have W4 := Lib.hid ((WA.out.under g3).under ((Below.refl _ _).alloc (Nat.le_refl _) (.cells #[.string (S tp)] 9)))
    have R4 := Lib.hid ((RR.out.under g3).alloc (.cells #[.string (S tp)] 9))
    clear g3 WA RR HF c0 c1 c2 c3 c4 c5 c6 c7
    go_wp2_with (at_builtin; refine wpList_append_lies _ rfl (.tmp 43) (.tmp 45) 41 rfl w.heap.size 9 i0 _ 1 16 Tryz.underlying41 hi hz0 hz1 hz2 rfl (by decide) _ hd0.length _ rfl W4.out.own ⟨w3.heap.size, 0, none⟩ 1 1 [.string (S tp)] rfl rfl (World.news_of_block (cs := #[.string (S tp)]) (t := 9) (fr := (0, 0)) (heap_alloc_new w3 _)) (by simp [Value.oneCell']) (by omega) (by unfold maxLen; omega) (by omega) W4.out.below.size (w3.heap.size + 1) (by simp) ?_; intro g' cap' w4 hown4 hgrow4 hat4 hlt4; have W5 := Lib.hid (W4.out.more (x := tp) hown4 hgrow4); have R5 := Lib.hid (R4.out.grown hgrow4 (El.own_ne W4.out.own R4.out (by decide))); clear hown4 hgrow4 hat4 hlt4 W4 R4; obtain ⟨c0, c1, c2, c3, c4, c5, c6, c7⟩ := row8 R5.out)
    have hlh : (hd0 ++ [tp]).length ≤ 4 := by rw [List.length_append, hl3.out]; exact Nat.le_refl 4
    have hlg : 1 ≤ (hd0 ++ [tp]).length := by rw [List.length_append]; simp
    generalize hd0 ++ [tp] = hd at *
    have WX := Lib.hid W5.out
    clear R5 W5
    go_wp2_with fail
    go_loopw [7, 11, 12, 13, 50] (fun v _ _ _ t wr => ∃ k : Nat, k ≤ L.length ∧ t = .int .i64 k ∧ Wl w (hd ++ (L.take k).map fun r => El.Elt.txt r.1 r.2) v wr) (fun _ _ _ _ t _ => L.length - (intOf t).toNat)
    case atStart => exact ⟨0, Nat.zero_le _, rfl, by rw [List.take_zero, List.map_nil, List.append_nil]; exact WX.out⟩
    case round =>
      obtain ⟨k, hk, rfl, hw⟩ := hrel
      have HW := Lib.hid hw; clear hw
      by_cases hlt : k < L.length
      · obtain ⟨g, off, rfl, hg, c0, c1⟩ := HR.out k hlt
        have c0 := (HW.out.below.cell (p := ⟨g, off + k * 2, none⟩) hg).trans c0
        have c1 := (HW.out.below.cell (p := ⟨g, off + k * 2 + 1, none⟩) hg).trans c1
        have k0 : (0 : Int) ≤ (k : Int) := by omega
        have k1 : (k : Int) < (L.length : Int) := by omega
        have x1 : IntKind.i64.wrap (k : Int) = (k : Int) := IntWalk.i64_in _ (by omega)
        have hv := Lib.hid (HVL.out _ (List.getElem_mem hlt))
        have hn := Lib.hid (show (hd ++ (L.take (k + 1)).map fun r => El.Elt.txt r.1 r.2) = (hd ++ (L.take k).map fun r => El.Elt.txt r.1 r.2) ++ [El.Elt.txt (L[k]).1 (L[k]).2] by rw [List.take_succ_eq_append_getElem hlt, List.map_append, List.append_assoc]; rfl)
        have hlen : (hd ++ (L.take k).map fun r => El.Elt.txt r.1 r.2).length ≤ 20 := by rw [List.length_append, List.length_map, List.length_take]; omega
        generalize L[k] = x at *
        obtain ⟨x0, x2⟩ := x
        simp only at c0 c1 hv hn
        generalize (hd ++ (L.take k).map fun r => El.Elt.txt r.1 r.2) = ws at *
        have hE4 := hE.under HW.out.below
        have hE5 := hE4.alloc (.cells #[.int .i64 x0, .int .i64 x2] 99)
        have HF := Lib.hid (El.format_yes x0 x2 _ hE5.el hv.out)
        have W5 := Lib.hid (HW.out.under ((Below.refl _ _).alloc (Nat.le_refl _) (.cells #[.int .i64 x0, .int .i64 x2] 99)))
        generalize El.Elt.txt x0 x2 = tx at *
        clear hE4 hE5
        go_wp2_with fail
        refine HF.out.mono ?_
        rintro e w6 ⟨rfl, g6⟩
        have W7 := Lib.hid ((W5.out.under g6).under ((Below.refl _ _).alloc (Nat.le_refl _) (.cells #[.string (S tx)] 9)))
        clear HF W5 g6 HW
        go_wp2_with (at_builtin; refine wpList_append_lies _ rfl (.tmp 59) (.tmp 61) 41 rfl w.heap.size 9 i0 _ 1 16 Tryz.underlying41 hi hz0 hz1 hz2 rfl (by decide) «u7» ws.length _ rfl W7.out.own ⟨w6.heap.size, 0, none⟩ 1 1 [.string (S tx)] rfl rfl (World.news_of_block (cs := #[.string (S tx)]) (t := 9) (fr := (0, 0)) (heap_alloc_new w6 _)) (by simp [Value.oneCell']) (by omega) (by unfold maxLen; omega) (by omega) W7.out.below.size (w6.heap.size + 1) (by simp) ?_; intro g' cap' w8 hown8 hgrow8 hat8 hlt8; have W8 := Lib.hid (W7.out.more (x := tx) hown8 hgrow8); clear hown8 hgrow8 hat8 hlt8)
        go_roundw
        case rel => exact ⟨k + 1, by omega, by go_num, by rw [hn.out]; exact W8.out⟩
        case measure => simp [intOf]; omega
      · have hke : k = L.length := by omega
        have k1 : ¬ ((k : Int) < (L.length : Int)) := by omega
        subst hke
        rw [List.take_length] at HW
        have HJ := Lib.hid (join_own HW.out (by rw [List.length_append, List.length_map]; omega) (by rw [List.length_append, List.length_map]; omega) hbd.out)
        go_wp2_with fail
        refine HJ.out.mono ?_
        rintro e w9 ⟨rfl, g9⟩
        have b9 := HW.out.below.trans (g9.mono HW.out.below.size)
        go_wp2_with fail
        go_ret2
        exact ⟨ret_str2 (by rw [HG.out]), b9⟩
end Go.Proofs.YtfnlgfacadmjpaaGreatDoor
