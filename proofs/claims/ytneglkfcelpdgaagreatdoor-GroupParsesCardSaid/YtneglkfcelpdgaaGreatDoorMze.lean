/- Contract of the program's read at the words of valid reports.; What the statements draw: a valid report near a minute. -/
import Derived.Test.YtneglkfcelpdgaaGreatDoorMzd
import Derived.Test.YtneglkfcelpdgaaGreatDoorMu
namespace Go.Proofs.YtneglkfcelpdgaaGreatDoor
open Go.RowKit

theorem set8_row {w : World} {g : Nat} {t : TypeId} {y0 y1 y2 y3 y4 y5 y6 y7 : Value} (u0 u1 u2 u3 u4 u5 u6 u7 : Value) (h : Row w g t #[y0, y1, y2, y3, y4, y5, y6, y7]) :
    Row ((((((((w.setCell ⟨g, 0, none⟩ u0).setCell ⟨g, 1, none⟩ u1).setCell ⟨g, 2, none⟩ u2).setCell ⟨g, 3, none⟩ u3).setCell ⟨g, 4, none⟩ u4).setCell ⟨g, 5, none⟩ u5).setCell ⟨g, 6, none⟩ u6).setCell ⟨g, 7, none⟩ u7) g t #[u0, u1, u2, u3, u4, u5, u6, u7] := by
  have h0 : Row (w.setCell ⟨g, 0, none⟩ u0) g t #[u0, y1, y2, y3, y4, y5, y6, y7] := h.put 0 _
  have h1 : Row ((w.setCell ⟨g, 0, none⟩ u0).setCell ⟨g, 1, none⟩ u1) g t #[u0, u1, y2, y3, y4, y5, y6, y7] := h0.put 1 _
  have h2 : Row (((w.setCell ⟨g, 0, none⟩ u0).setCell ⟨g, 1, none⟩ u1).setCell ⟨g, 2, none⟩ u2) g t #[u0, u1, u2, y3, y4, y5, y6, y7] := h1.put 2 _
  have h3 : Row ((((w.setCell ⟨g, 0, none⟩ u0).setCell ⟨g, 1, none⟩ u1).setCell ⟨g, 2, none⟩ u2).setCell ⟨g, 3, none⟩ u3) g t #[u0, u1, u2, u3, y4, y5, y6, y7] := h2.put 3 _
  have h4 : Row (((((w.setCell ⟨g, 0, none⟩ u0).setCell ⟨g, 1, none⟩ u1).setCell ⟨g, 2, none⟩ u2).setCell ⟨g, 3, none⟩ u3).setCell ⟨g, 4, none⟩ u4) g t #[u0, u1, u2, u3, u4, y5, y6, y7] := h3.put 4 _
  have h5 : Row ((((((w.setCell ⟨g, 0, none⟩ u0).setCell ⟨g, 1, none⟩ u1).setCell ⟨g, 2, none⟩ u2).setCell ⟨g, 3, none⟩ u3).setCell ⟨g, 4, none⟩ u4).setCell ⟨g, 5, none⟩ u5) g t #[u0, u1, u2, u3, u4, u5, y6, y7] := h4.put 5 _
  have h6 : Row (((((((w.setCell ⟨g, 0, none⟩ u0).setCell ⟨g, 1, none⟩ u1).setCell ⟨g, 2, none⟩ u2).setCell ⟨g, 3, none⟩ u3).setCell ⟨g, 4, none⟩ u4).setCell ⟨g, 5, none⟩ u5).setCell ⟨g, 6, none⟩ u6) g t #[u0, u1, u2, u3, u4, u5, u6, y7] := h5.put 6 _
  exact h6.put 7 _
theorem set8_below {w0 w : World} {B g : Nat} {u0 u1 u2 u3 u4 u5 u6 u7 : Value} (h : Below B w0 w) (hg : B ≤ g) :
    Below B w0 ((((((((w.setCell ⟨g, 0, none⟩ u0).setCell ⟨g, 1, none⟩ u1).setCell ⟨g, 2, none⟩ u2).setCell ⟨g, 3, none⟩ u3).setCell ⟨g, 4, none⟩ u4).setCell ⟨g, 5, none⟩ u5).setCell ⟨g, 6, none⟩ u6).setCell ⟨g, 7, none⟩ u7) :=
  (set4_below h hg |>.setCell (p := ⟨g, 4, none⟩) hg _ |>.setCell (p := ⟨g, 5, none⟩) hg _ |>.setCell (p := ⟨g, 6, none⟩) hg _).setCell (p := ⟨g, 7, none⟩) hg _
theorem set8_far {w : World} {g x : Nat} {t : TypeId} {cs : Array Value} (u0 u1 u2 u3 u4 u5 u6 u7 : Value) (h : Row w x t cs) (hx : g ≠ x) :
    Row ((((((((w.setCell ⟨g, 0, none⟩ u0).setCell ⟨g, 1, none⟩ u1).setCell ⟨g, 2, none⟩ u2).setCell ⟨g, 3, none⟩ u3).setCell ⟨g, 4, none⟩ u4).setCell ⟨g, 5, none⟩ u5).setCell ⟨g, 6, none⟩ u6).setCell ⟨g, 7, none⟩ u7) x t cs :=
  (((set4_far u0 u1 u2 u3 h hx |>.far (p := ⟨g, 4, none⟩) hx u4).far (p := ⟨g, 5, none⟩) hx u5).far (p := ⟨g, 6, none⟩) hx u6).far (p := ⟨g, 7, none⟩) hx u7
theorem set8_cell {w : World} {g : Nat} {p : Addr} (h : p.block ≠ g) (u0 u1 u2 u3 u4 u5 u6 u7 : Value) : ((((((((w.setCell ⟨g, 0, none⟩ u0).setCell ⟨g, 1, none⟩ u1).setCell ⟨g, 2, none⟩ u2).setCell ⟨g, 3, none⟩ u3).setCell ⟨g, 4, none⟩ u4).setCell ⟨g, 5, none⟩ u5).setCell ⟨g, 6, none⟩ u6).setCell ⟨g, 7, none⟩ u7).cell? p = w.cell? p := by
  have k : ∀ (W : World) (j : Nat) (u : Value), (W.setCell ⟨g, j, none⟩ u).cell? p = W.cell? p := fun W j u => World.cell?_setCell_other W _ p u (by intro e; subst e; exact h rfl)
  rw [k, k, k, k, k, k, k, k]
theorem drew_cell (w : World) (p : Addr) : w.drew.cell? p = w.cell? p := rfl
theorem rdIn_far {w : World} {g : Nat} {A : Option Addr} {n c : Nat} {L : List El.Elt.R} (h : El.RdIn w (.slice A n c) L) (hn : ∀ i, (Value.slice A n c).ownBlock = some i → i ≠ g) (u0 u1 u2 u3 u4 u5 u6 u7 : Value) :
    El.RdIn (((((((((w.setCell ⟨g, 0, none⟩ u0).setCell ⟨g, 1, none⟩ u1).setCell ⟨g, 2, none⟩ u2).setCell ⟨g, 3, none⟩ u3).setCell ⟨g, 4, none⟩ u4).setCell ⟨g, 5, none⟩ u5).setCell ⟨g, 6, none⟩ u6).setCell ⟨g, 7, none⟩ u7)).drew (.slice A n c) L := by
  obtain ⟨A', c', e, h1, h2, h3⟩ := h
  obtain ⟨rfl, rfl, rfl⟩ : A = A' ∧ n = L.length ∧ c = c' := by injection e with e1 e2 e3; exact ⟨e1, e2, e3⟩
  refine ⟨A, c, rfl, h1, h2, fun i hi => ?_⟩
  obtain ⟨b, off, rfl, hb, c0, c1⟩ := h3 i hi
  have hne : b ≠ g := hn b rfl
  refine ⟨b, off, rfl, ?_, ?_, ?_⟩
  · exact Nat.lt_of_lt_of_le hb (set8_below (u0 := u0) (u1 := u1) (u2 := u2) (u3 := u3) (u4 := u4) (u5 := u5) (u6 := u6) (u7 := u7) (Below.refl 0 w) (Nat.zero_le g)).drew.size
  · rw [drew_cell, set8_cell (p := ⟨b, off + i * 2, none⟩) hne]; exact c0
  · rw [drew_cell, set8_cell (p := ⟨b, off + i * 2 + 1, none⟩) hne]; exact c1
/-- The place behind the head of a report's words. -/
theorem readPl_yes (k : Int) (v : Value) (F A B C : Int) (ws : List (List UInt8)) (w : World) (hW : WIn w v ((if k = 1 then [] else [Pl.txt F.toNat A B]) ++ ws)) (hP : plOk k F A B C = true) :
    Calls Tryz.prog 100 #[.int .i64 k, v] w fun e w' => ∃ v', e = .returned (.tuple #[.agg #[.int .i64 F, .int .i64 A, .int .i64 B, .int .i64 C], v', .int .i64 0]) ∧ WIn w' v' ws ∧ Below w.heap.size w w' := by
  by_cases hk : k = 1
  · subst hk
    rw [if_pos rfl, List.nil_append] at hW
    unfold plOk at hP
    rw [if_pos rfl] at hP
    simp only [Bool.and_eq_true, beq_iff_eq] at hP
    obtain ⟨⟨⟨rfl, rfl⟩, rfl⟩, rfl⟩ := hP
    exact (readPl_land v w).mono fun e w' ⟨he, hg⟩ => ⟨v, he, hW.under hg, hg⟩
  · rw [if_neg hk] at hW
    unfold plOk at hP
    rw [if_neg hk] at hP
    unfold nrm at hP
    obtain ⟨f, rfl, hf⟩ := Pl.vb_to (Bool.and_eq_true_iff.1 hP).1
    exact readPl_sea k hk v f A B C ws w hW hf
set_option maxRecDepth 100000 in
set_option maxHeartbeats 600000 in
theorem read_yes (k : Int) (nm : ByteArray) (t F A B C : Int) (L : List El.Elt.R) (near a : Int) (g off cap : Nat) (w : World) (hE : Env w) (hV : Vd k nm t F A B C L) (hr : rsv (dayOf t) (hourOf t) (minOf t) near = some a)
    (hcap : 4 ≤ cap) (hW : WIn w (.slice (some ⟨g, off, none⟩) (wds k nm t F A B L).length cap) (wds k nm t F A B L)) :
    Calls Tryz.prog 61 #[.slice (some ⟨g, off, none⟩) (wds k nm t F A B L).length cap, .int .i64 near] w fun e w' => ∃ u, e = .returned (.tuple #[repV k nm a F A B C u, .int .i64 0]) ∧ El.RdIn w' u L ∧ (∀ i, u.ownBlock = some i → w.heap.size ≤ i) ∧ Below w.heap.size w w' := by
  obtain ⟨td, th, tm⟩ := dt_bd hV.time
  have HS := Lib.hid (fun w hT => res_yes (dayOf t) (hourOf t) (minOf t) near a w hT (by omega) (by omega) (by omega) hr)
  have HK := Lib.hid (fun w hE => kindOf_yes k hV.kind w hE)
  have HL := Lib.hid (fun v w h1 h2 => readRs_yes v L w h1 h2 (vld_len hV.list) (vld_zero hV.list).1)
  have HP := Lib.hid (fun v w h => readPl_yes k v F A B C (txs L) w h hV.place)
  obtain ⟨nl, rfl⟩ : ∃ nl, nm = S nl := ⟨nm.data.toList, (S_of nm).symm⟩
  obtain ⟨rest, hrest⟩ : ∃ rest, (if k = 1 then [] else [Pl.txt F.toNat A B]) ++ txs L = rest := ⟨_, rfl⟩
  have hwd : wds k (S nl) t F A B L = kw k :: nl :: stp t :: rest := by rw [← hrest]; unfold wds txs; rw [S_list]; simp
  rw [hwd] at hW ⊢
  rw [hrest] at HP
  have hst : stp t = Ck.dig2 (dayOf t) ++ Ck.dig2 (hourOf t) ++ Ck.dig2 (minOf t) := rfl
  rw [← hst] at HS
  obtain ⟨A', cap', he, h1, h2, h3⟩ := hW
  obtain ⟨rfl, rfl⟩ : (some ⟨g, off, none⟩ : Option Addr) = A' ∧ cap = cap' := by injection he with e1 e2 e3; exact ⟨e1, e3⟩
  clear he hr hV hwd hst hrest
  have key : ∀ i (h : i < (kw k :: nl :: stp t :: rest).length), g < w.heap.size ∧ w.cell? ⟨g, off + i, none⟩ = some (.string (S (kw k :: nl :: stp t :: rest)[i])) := fun i hi => by
    obtain ⟨g', off', e, hg, hc⟩ := h3 i hi
    obtain ⟨rfl, rfl⟩ : g = g' ∧ off = off' := by injection e with e; injection e with e1 e2; exact ⟨e1, e2⟩
    exact ⟨hg, hc⟩
  have hg := (key 0 (by simp)).1
  have c0 : w.cell? ⟨g, off, none⟩ = some (.string (S (kw k))) := (key 0 (by simp)).2
  have c1 : w.cell? ⟨g, off + 1, none⟩ = some (.string (S nl)) := (key 1 (by simp)).2
  have c2 : w.cell? ⟨g, off + 2, none⟩ = some (.string (S (stp t))) := (key 2 (by simp)).2
  have HR := Lib.hid (show ∀ i (h : i < rest.length), w.cell? ⟨g, off + (i + 3), none⟩ = some (.string (S rest[i])) from fun i hi => (key (i + 3) (by simp; omega)).2)
  have hlen : (kw k :: nl :: stp t :: rest).length = rest.length + 3 := by simp
  rw [hlen] at h1 ⊢
  clear h3 key hlen
  have n1 : ¬ ((rest.length : Int) + 3 < 3) := by omega
  have n2 : (3 : Int) ≤ (rest.length : Int) + 3 := by omega
  have n3 : (rest.length : Int) + 3 ≤ (cap : Int) := by omega
  have n4 : (3 : Int) < (cap : Int) := by omega
  have n5 : ¬ (cap - 3 = 0) := by omega
  have n6 : ((rest.length : Int) + 3 - 3).toNat = rest.length := by omega
  generalize S (kw k) = wk at *
  generalize S (stp t) = wst at *
  generalize S nl = nm at *
  have C0 := Lib.hid c0
  have C1 := Lib.hid c1
  have C2 := Lib.hid c2
  have b4 := (Below.refl w.heap.size w).alloc (Nat.le_refl _) (.cells (repC 0 ⟨#[]⟩ 0 0 0 0 0 (.slice none 0 0)) 26)
  have r4 := Row.new w (repC 0 ⟨#[]⟩ 0 0 0 0 0 (.slice none 0 0)) 26
  have hE4 := hE.under b4
  go_enter Tryz.func61, Tryz.ntmps61
  go_wp2_with fail
  generalize w.alloc (.cells (repC 0 ⟨#[]⟩ 0 0 0 0 0 (.slice none 0 0)) 26) = W0 at *
  refine (HK.out _ hE4).mono ?_
  rintro e w1 ⟨rfl, rfl⟩
  have d2 := (b4.cell (p := ⟨g, off + 2, none⟩) hg).trans C2.out
  clear c0 c1 c2
  go_wp2_with fail
  refine (HS.out _ hE4.ck).mono ?_
  rintro e w2 ⟨rfl, g2⟩
  have b5 := b4.trans (g2.mono b4.size)
  have r5 := r4.under g2
  have hE5 := hE4.under g2
  clear g2 b4 r4 hE4 d2
  have hwi : WIn w2 (.slice (some ⟨g, off + 3, none⟩) rest.length (cap - 3)) rest := ⟨_, _, rfl, by omega, by omega, fun i hi => ⟨g, off + 3, rfl, Nat.lt_of_lt_of_le hg b5.size, by
    rw [show off + 3 + i = off + (i + 3) by omega]
    exact (b5.cell (p := ⟨g, off + (i + 3), none⟩) hg).trans (HR.out i hi)⟩⟩
  go_wp2_with fail
  refine (HP.out _ _ hwi).mono ?_
  rintro e w3 ⟨v', rfl, hw3, g3⟩
  have b6 := (b5.trans (g3.mono b5.size)).alloc (Nat.le_trans b5.size g3.size) (.cells #[.int .i64 F, .int .i64 A, .int .i64 B, .int .i64 C] 23)
  have r6 := (r5.under g3).alloc (.cells #[.int .i64 F, .int .i64 A, .int .i64 B, .int .i64 C] 23)
  have rp := Row.new w3 #[.int .i64 F, .int .i64 A, .int .i64 B, .int .i64 C] 23
  have hE6 := (hE5.under g3).alloc (.cells #[.int .i64 F, .int .i64 A, .int .i64 B, .int .i64 C] 23)
  have hw6 := hw3.under ((Below.refl _ _).alloc (Nat.le_refl _) (.cells #[.int .i64 F, .int .i64 A, .int .i64 B, .int .i64 C] 23))
  have hne : w.heap.size ≠ w3.heap.size := Nat.ne_of_lt (Nat.lt_of_lt_of_le r5.lt g3.size)
  clear g3 b5 r5 hE5 hw3 hwi HP
  go_upto_region 12 with fail
  generalize w3.alloc (.cells #[.int .i64 F, .int .i64 A, .int .i64 B, .int .i64 C] 23) = W6 at *
  generalize w3.heap.size = gp at *
  go_wp2_with fail
  refine (HL.out v' _ hw6 hE6).mono ?_
  rintro e w7 ⟨u, rfl, hR7⟩
  have g7 := hR7.below
  have b7 := b6.trans (g7.mono b6.size)
  have r7 := r6.under g7
  have rp7 := rp.under g7
  have d1 := (b7.cell (p := ⟨g, off + 1, none⟩) hg).trans C1.out
  have HRd : Hid (El.RdIn w7 u L) := Lib.hid (El.RdIn.own hR7.own)
  obtain ⟨Au, cu, rfl, -⟩ := id HRd.out
  have HO := Lib.hid (fun i (e : (Value.slice Au L.length cu).ownBlock = some i) => (show w.heap.size < i from (Nat.lt_of_lt_of_le r6.lt (hR7.own.lt i e).1)))
  clear b6 r6 rp hE6 hw6 g7 hR7 HL
  go_upto_region 15 with fail
  have f0 := r7.thaw 0
  have f1 := r7.thaw 1
  have f2 := r7.thaw 2
  have f3 := r7.thaw 3
  have f4 := r7.thaw 4
  have f5 := r7.thaw 5
  have f6 := r7.thaw 6
  have f7 := r7.thaw 7
  obtain ⟨q0, q1, q2, q3, q4, q5, q6, q7⟩ := row8 r7
  obtain ⟨p0, p1, p2, p3⟩ := row4 rp7
  have HZ := Lib.hid (set8_row (.int .i64 k) (.string nm) (.int .i64 a) (.int .i64 F) (.int .i64 A) (.int .i64 B) (.int .i64 C) (.slice Au L.length cu) r7).drew
  have HF := Lib.hid (set8_below (u0 := .int .i64 k) (u1 := .string nm) (u2 := .int .i64 a) (u3 := .int .i64 F) (u4 := .int .i64 A) (u5 := .int .i64 B) (u6 := .int .i64 C) (u7 := .slice Au L.length cu) b7 (Nat.le_refl _)).drew
  have HQ := Lib.hid (set8_far (.int .i64 k) (.string nm) (.int .i64 a) (.int .i64 F) (.int .i64 A) (.int .i64 B) (.int .i64 C) (.slice Au L.length cu) rp7 hne).drew
  have RP := Lib.hid rp7
  have B7 := Lib.hid b7
  have D1 := Lib.hid d1
  clear r7 rp7 b7
  have xw : IntKind.i64.wrap 1 = 1 := by decide
  have n7 : (1 : Int) < (rest.length : Int) + 3 := by omega
  refine wp_region_held_drew (S := fun w' : World => w'.cell? ⟨g, off + 1, none⟩ = some (.string nm) ∧ w'.cell? ⟨gp, 0, none⟩ = some (.int .i64 F) ∧ w'.cell? ⟨gp, 1, none⟩ = some (.int .i64 A) ∧ w'.cell? ⟨gp, 2, none⟩ = some (.int .i64 B) ∧ w'.cell? ⟨gp, 3, none⟩ = some (.int .i64 C)) (by kernel_rfl) ⟨d1, p0, p1, p2, p3⟩ (fun hHeld => ?_)
  refine wpAnyH_take (i := 0) (v := ?_) rfl (by kernel_rfl) (by kernel_rfl) (by kernel_rfl) (fun _ _ _ h => h) (Or.inl ⟨by rfl, ?_⟩) (by assumption) ?_
  case refine_2 => (intro wx hSx; (try dsimp only at hSx); go_simp; first | done | with_reducible rfl)
  try simp only [Act.put]
  refine wpAnyH_take (i := 1) (v := ?_) rfl (by kernel_rfl) (by kernel_rfl) (by kernel_rfl) (fun _ _ _ h => h) (Or.inl ⟨by rfl, ?_⟩) (by assumption) ?_
  case refine_2 => (intro wx hSx; (try dsimp only at hSx); go_simp; first | done | with_reducible rfl)
  try simp only [Act.put]
  refine wpAnyH_take (i := 2) (v := ?_) rfl (by kernel_rfl) (by kernel_rfl) (by kernel_rfl) (fun _ _ _ h => h) (Or.inl ⟨by rfl, ?_⟩) (by assumption) ?_
  case refine_2 => (intro wx hSx; (try dsimp only at hSx); go_simp; first | done | with_reducible rfl)
  try simp only [Act.put]
  refine wpAnyH_take (i := 3) (v := ?_) rfl (by kernel_rfl) (by kernel_rfl) (by kernel_rfl) (fun _ _ _ h => h) (Or.inl ⟨by rfl, ?_⟩) (by assumption) ?_
  case refine_2 => (intro wx hSx; (try dsimp only at hSx); go_simp; first | done | with_reducible rfl)
  try simp only [Act.put]
  refine wpAnyH_take (i := 4) (v := ?_) rfl (by kernel_rfl) (by kernel_rfl) (by kernel_rfl) (fun _ _ _ h => h) (Or.inl ⟨by rfl, ?_⟩) (by assumption) ?_
  case refine_2 => (intro wx hSx; (try dsimp only at hSx); go_simp; first | done | with_reducible rfl)
  try simp only [Act.put]
  refine wpAnyH_take (i := 5) (v := ?_) rfl (by kernel_rfl) (by kernel_rfl) (by kernel_rfl) (fun _ _ _ h => h) (Or.inl ⟨by rfl, ?_⟩) (by assumption) ?_
  case refine_2 => (intro wx hSx; (try dsimp only at hSx); go_simp; first | done | with_reducible rfl)
  try simp only [Act.put]
  refine wpAnyH_take (i := 6) (v := ?_) rfl (by kernel_rfl) (by kernel_rfl) (by kernel_rfl) (fun _ _ _ h => h) (Or.inl ⟨by rfl, ?_⟩) (by assumption) ?_
  case refine_2 => (intro wx hSx; (try dsimp only at hSx); go_simp; first | done | with_reducible rfl)
  try simp only [Act.put]
  refine wpAnyH_take (i := 7) (v := ?_) rfl (by kernel_rfl) (by kernel_rfl) (by kernel_rfl) (fun _ _ _ h => h) (Or.inl ⟨by rfl, ?_⟩) (by assumption) ?_
  case refine_2 => (intro wx hSx; (try dsimp only at hSx); go_simp; first | done | with_reducible rfl)
  try simp only [Act.put]
  refine wpAnyH_ready (rs := [8]) (by kernel_rfl) (by simp) ?_
  refine AllReadyH.cons (o := ⟨none, _, _, _, _, none⟩) rfl (fun K hK => ?_) AllReadyH.nil
  go_simp
  refine hK.out _ _ ⟨(HF.out.cell (p := ⟨g, off + 1, none⟩) hg).trans C1.out, row4 HQ.out⟩ (fun hHeld2 => ?_)
  clear hK K hHeld
  try simp only [Act.put]
  refine wpAnyH_take (i := 9) (oi := ⟨some 5, _, _, _, _, none⟩) (v := ?_) rfl (by kernel_rfl) (by kernel_rfl) (by kernel_rfl) (fun _ _ _ h => h) (Or.inl ⟨by rfl, ?_⟩) (by assumption) ?_
  case refine_2 => (intro wx hSx; (try dsimp only at hSx); go_simp; first | done | with_reducible rfl)
  try simp only [Act.put]
  refine wpAnyH_done (by kernel_rfl) ?_ _
  clear f0 f1 f2 f3 f4 f5 f6 f7 q0 q1 q2 q3 q4 q5 q6 q7 p0 p1 p2 p3 d1
  go_wp2_with fail
  exact bodyPost_ret (v := .tuple #[repV k nm a F A B C (.slice Au L.length cu), .int .i64 0]) (by obtain ⟨z0, z1, z2, z3, z4, z5, z6, z7⟩ := row8 HZ.out; simp [results, Tryz.results61, z0, z1, z2, z3, z4, z5, z6, z7, go_sem]) rfl ⟨_, rfl, rdIn_far HRd.out (fun i e => Nat.ne_of_gt (HO.out i e)) _ _ _ _ _ _ _ _, fun i e => Nat.le_of_lt (HO.out i e), HF.out⟩
end Go.Proofs.YtneglkfcelpdgaaGreatDoor
namespace Go.Proofs.YtneglkfcelpdgaaGreatDoor
open Go.RowKit

theorem own_far {w w' : World} {base size n : Nat} {e : TypeId} {v : Value} {xs : List Value} (h : w.ownsRow base e size v n xs) (hk : ∀ g, v.ownBlock = some g → w'.heap[g]? = w.heap[g]?) : w'.ownsRow base e size v n xs := by
  refine ⟨h.1, ?_⟩
  rcases h.2 with h0 | ⟨g, cap, cur, rfl, h1, h2, h3⟩
  · exact .inl h0
  · exact .inr ⟨g, cap, cur, rfl, h1, (hk g rfl).trans h2, h3⟩
theorem own_base {w : World} {base base' size n : Nat} {e : TypeId} {v : Value} {xs : List Value} (h : w.ownsRow base e size v n xs) (hb : base' ≤ base) : w.ownsRow base' e size v n xs := by
  refine ⟨h.1, ?_⟩
  rcases h.2 with h0 | ⟨g, cap, cur, rfl, h1, h3⟩
  · exact .inl h0
  · exact .inr ⟨g, cap, cur, rfl, Nat.le_trans hb h1, h3⟩
theorem gl_set {W w0 w : World} {b : Nat} {M : List El.Elt.R} {u : Value} (h : El.Gl W b w0 M u w) (g j : Nat) (x : Value) (hW : W.heap.size ≤ w0.heap.size) (hg : w0.heap.size ≤ g) (hb : g ≠ b) (hne : some g ≠ u.ownBlock) : El.Gl W b w0 M u (w.setCell ⟨g, j, none⟩ x) :=
  ⟨Pl.src_set h.src g j x (Nat.le_trans hW hg) hb, Pl.grown_set h.gro g j x hg rfl, own_far h.own fun i hi => Below.heap_setCell w ⟨g, j, none⟩ x i (fun e => hne (by rw [hi]; simp at e; rw [e]))⟩
/-- What is known while a report is drawn. -/
structure Rs (W : World) (b : Nat) (w0 : World) (gr gp : Nat) (k : Int) (nm : ByteArray) (t F A B C : Int) (u : Value) (L : List El.Elt.R) (w : World) : Prop where
  gl : El.Gl W b w0 L u w
  res : Row w gr 26 (repC 0 ⟨#[]⟩ 0 0 0 0 0 (.slice none 0 0))
  rep : Row w gp 26 (repC k nm t F A B C u)
  ne : gr ≠ gp
  nr : w0.heap.size ≤ gr
  np : w0.heap.size ≤ gp
  br : gr ≠ b
  bp : gp ≠ b
  w0W : W.heap.size ≤ w0.heap.size
section
variable {W w0 w w' : World} {b gr gp : Nat} {k : Int} {nm : ByteArray} {t F A B C : Int} {u : Value} {L : List El.Elt.R}
theorem Rs.step (h : Rs W b w0 gr gp k nm t F A B C u L w) (hs : Src W b w') (hg : w.grownBy w' (some b)) : Rs W b w0 gr gp k nm t F A B C u L w' :=
  ⟨h.gl.step hs hg, h.res.grown hg (fun e => h.br (by injection e)), h.rep.grown hg (fun e => h.bp (by injection e)), h.ne, h.nr, h.np, h.br, h.bp, h.w0W⟩
theorem Rs.put (h : Rs W b w0 gr gp k nm t F A B C u L w) (F' A' B' C' : Int) : Rs W b w0 gr gp k nm t F' A' B' C' u L ((((w.setCell ⟨gp, 3, none⟩ (.int .i64 F')).setCell ⟨gp, 4, none⟩ (.int .i64 A')).setCell ⟨gp, 5, none⟩ (.int .i64 B')).setCell ⟨gp, 6, none⟩ (.int .i64 C')) := by
  have hne : some gp ≠ u.ownBlock := El.own_ne h.gl.own h.rep (by decide)
  have g1 := gl_set h.gl gp 3 (.int .i64 F') h.w0W h.np h.bp hne
  have g2 := gl_set g1 gp 4 (.int .i64 A') h.w0W h.np h.bp hne
  have g3 := gl_set g2 gp 5 (.int .i64 B') h.w0W h.np h.bp hne
  have g4 := gl_set g3 gp 6 (.int .i64 C') h.w0W h.np h.bp hne
  have r1 : Row (w.setCell ⟨gp, 3, none⟩ (.int .i64 F')) gp 26 (repC k nm t F' A B C u) := h.rep.put 3 _
  have r2 : Row ((w.setCell ⟨gp, 3, none⟩ (.int .i64 F')).setCell ⟨gp, 4, none⟩ (.int .i64 A')) gp 26 (repC k nm t F' A' B C u) := r1.put 4 _
  have r3 : Row (((w.setCell ⟨gp, 3, none⟩ (.int .i64 F')).setCell ⟨gp, 4, none⟩ (.int .i64 A')).setCell ⟨gp, 5, none⟩ (.int .i64 B')) gp 26 (repC k nm t F' A' B' C u) := r2.put 5 _
  exact ⟨g4, (((h.res.far (p := ⟨gp, 3, none⟩) (Ne.symm h.ne) _).far (p := ⟨gp, 4, none⟩) (Ne.symm h.ne) _).far (p := ⟨gp, 5, none⟩) (Ne.symm h.ne) _).far (p := ⟨gp, 6, none⟩) (Ne.symm h.ne) _, r3.put 6 _, h.ne, h.nr, h.np, h.br, h.bp, h.w0W⟩
theorem Rs.fin (h : Rs W b w0 gr gp k nm t F A B C u L w) (u0 u1 u2 u3 u4 u5 u6 u7 : Value) :
    El.Gl W b w0 L u ((((((((w.setCell ⟨gr, 0, none⟩ u0).setCell ⟨gr, 1, none⟩ u1).setCell ⟨gr, 2, none⟩ u2).setCell ⟨gr, 3, none⟩ u3).setCell ⟨gr, 4, none⟩ u4).setCell ⟨gr, 5, none⟩ u5).setCell ⟨gr, 6, none⟩ u6).setCell ⟨gr, 7, none⟩ u7) ∧
    Row ((((((((w.setCell ⟨gr, 0, none⟩ u0).setCell ⟨gr, 1, none⟩ u1).setCell ⟨gr, 2, none⟩ u2).setCell ⟨gr, 3, none⟩ u3).setCell ⟨gr, 4, none⟩ u4).setCell ⟨gr, 5, none⟩ u5).setCell ⟨gr, 6, none⟩ u6).setCell ⟨gr, 7, none⟩ u7) gr 26 #[u0, u1, u2, u3, u4, u5, u6, u7] := by
  have hne : some gr ≠ u.ownBlock := El.own_ne h.gl.own h.res (by decide)
  refine ⟨?_, set8_row u0 u1 u2 u3 u4 u5 u6 u7 h.res⟩
  exact gl_set (gl_set (gl_set (gl_set (gl_set (gl_set (gl_set (gl_set h.gl gr 0 u0 h.w0W h.nr h.br hne) gr 1 u1 h.w0W h.nr h.br hne) gr 2 u2 h.w0W h.nr h.br hne) gr 3 u3 h.w0W h.nr h.br hne) gr 4 u4 h.w0W h.nr h.br hne) gr 5 u5 h.w0W h.nr h.br hne) gr 6 u6 h.w0W h.nr h.br hne) gr 7 u7 h.w0W h.nr h.br hne
end
/-- What Report leaves: a valid report that is less than 14 days from the minute. -/
def Rpt (W : World) (b : Nat) (m : Int) (w : World) (e : Ending) (w' : World) : Prop := ∃ (k : Int) (nm : ByteArray) (t F A B C : Int) (u : Value) (L : List El.Elt.R), Vd k nm t F A B C L ∧ (m - 20160 < t ∧ t < m + 20160) ∧ e = .returned (repV k nm t F A B C u) ∧ El.Gl W b w L u w'
set_option maxRecDepth 100000 in
set_option maxHeartbeats 2000000 in
theorem report_any (W : World) (b : Nat) (w : World) (m : Int) (h : Src W b w) (m1 : 0 ≤ m) (m2 : m ≤ 52595999) :
    Calls Tryz.prog 9 #[.pointer (some ⟨b, 0, none⟩), .int .i64 m] w (Rpt W b m w) := by
  have hbl := src_lt h
  have hW := h.below.size
  have b0 := (Below.refl w.heap.size w).alloc (Nat.le_refl _) (.cells (repC 0 ⟨#[]⟩ 0 0 0 0 0 (.slice none 0 0)) 26)
  have r0 := Row.new w (repC 0 ⟨#[]⟩ 0 0 0 0 0 (.slice none 0 0)) 26
  have s0 := h.under b0
  have hgb : w.heap.size ≠ b := Nat.ne_of_gt hbl
  go_enter Tryz.func9, Tryz.ntmps9
  go_wp2_with fail
  generalize w.alloc (.cells (repC 0 ⟨#[]⟩ 0 0 0 0 0 (.slice none 0 0)) 26) = W0 at *
  refine (range_any W b _ _ _ s0 (by omega) (by omega) (by omega) (by omega)).mono ?_
  rintro e w1 ⟨k, ⟨k1, k2⟩, rfl, s1, g1⟩
  go_wp2_with fail
  refine (name_any W b _ s1).mono ?_
  rintro e w2 ⟨nm, hnm, rfl, s2, g2⟩
  go_wp2_with fail
  refine (near_any W b _ m s2 m1 m2).mono ?_
  rintro e w3 ⟨t, ⟨ht, t3, t4⟩, rfl, s3, g3⟩
  go_wp2_with fail
  refine (El.list_any W b _ s3).mono ?_
  rintro e w4 ⟨u, L, rfl, hG, hS⟩
  have hL := Lib.hid hG.vld
  have G := grown_trans (grown_trans (grown_trans (grown_below b0) g1) g2) g3
  have r3 := ((r0.grown g1 (fun e => hgb (by injection e))).grown g2 (fun e => hgb (by injection e))).grown g3 (fun e => hgb (by injection e))
  have h3 : w.heap.size ≤ w3.heap.size := G.size
  have gl4 : El.Gl W b w L u w4 := ⟨hS.src, grown_trans G hS.gro, own_base hS.own h3⟩
  have r4 := r3.grown hS.gro (fun e => hgb (by injection e))
  obtain ⟨Au, cu, rfl, -⟩ := id (El.RdIn.own hS.own)
  have ba := (Below.refl w4.heap.size w4).alloc (Nat.le_refl _) (.cells (repC k nm t 0 0 0 0 (.slice Au L.length cu)) 26)
  have I0 : Rs W b w w.heap.size w4.heap.size k nm t 0 0 0 0 (.slice Au L.length cu) L (w4.alloc (.cells (repC k nm t 0 0 0 0 (.slice Au L.length cu)) 26)) :=
    ⟨gl4.under ba, r4.alloc _, Row.new _ _ _, Nat.ne_of_lt r4.lt, Nat.le_refl _, Nat.le_of_lt r4.lt, hgb, Nat.ne_of_gt (src_lt hS.src), hW⟩
  go_upto_region 2 with fail
  refine forget (Rs W b w w.heap.size w4.heap.size k nm t 0 0 0 0 (.slice Au L.length cu) L) I0 ?_
  clear I0 ba gl4 r4 r3 G h3 hS hG s3 g3 s2 g2 s1 g1 s0 r0 b0 h hgb hbl hW
  generalize w4.heap.size = gp at *
  obtain ⟨gr, hgr⟩ : ∃ g, w.heap.size = g := ⟨_, rfl⟩
  rw [hgr]
  clear hgr
  rintro Y I
  by_cases hk : k = 1
  · subst hk
    obtain ⟨p0, p1, p2, p3, p4, p5, p6, p7⟩ := row8 I.rep
    have hV : Vd 1 nm t 0 0 0 0 L := ⟨by omega, hnm, ht, rfl, hL.out⟩
    have HV := Lib.hid hV; clear hV
    have f0 := I.res.thaw 0
    have f1 := I.res.thaw 1
    have f2 := I.res.thaw 2
    have f3 := I.res.thaw 3
    have f4 := I.res.thaw 4
    have f5 := I.res.thaw 5
    have f6 := I.res.thaw 6
    have f7 := I.res.thaw 7
    obtain ⟨q0, q1, q2, q3, q4, q5, q6, q7⟩ := row8 I.res
    have HZ := Lib.hid (I.fin (.int .i64 1) (.string nm) (.int .i64 t) (.int .i64 0) (.int .i64 0) (.int .i64 0) (.int .i64 0) (.slice Au L.length cu))
    clear I
    go_wp2_with fail
    clear f0 f1 f2 f3 f4 f5 f6 f7 q0 q1 q2 q3 q4 q5 q6 q7 p0 p1 p2 p3 p4 p5 p6 p7
    exact bodyPost_ret (v := repV 1 nm t 0 0 0 0 (.slice Au L.length cu)) (results_cell_row Tryz.results9 _ _ gr 26 _ (0, 0) _ rfl HZ.out.2 Tryz.underlying26 rfl (by kernel_rfl)) rfl ⟨1, nm, t, 0, 0, 0, 0, _, L, HV.out, ⟨t3, t4⟩, rfl, HZ.out.1⟩
  · have q : (k != 1) = true := by rw [bne_iff_ne]; exact hk
    obtain ⟨p0, p1, p2, p3, p4, p5, p6, p7⟩ := row8 I.rep
    go_wp2_with fail
    refine (place_any W b _ I.gl.src).mono ?_
    rintro e w5 ⟨F, A, B, C, hn, rfl, s5, g5⟩
    have I5 := I.step s5 g5
    have hV : Vd k nm t F A B C L := ⟨by omega, hnm, ht, by unfold plOk; rw [if_neg hk]; exact hn, hL.out⟩
    have HV := Lib.hid hV; clear hV hn
    clear I s5 g5 p0 p1 p2 p3 p4 p5 p6 p7
    obtain ⟨p0, p1, p2, p3, p4, p5, p6, p7⟩ := row8 I5.rep
    have e3 := I5.rep.thaw 3
    have e4 := I5.rep.thaw 4
    have e5 := I5.rep.thaw 5
    have e6 := I5.rep.thaw 6
    have I6 := Lib.hid (I5.put F A B C)
    clear I5
    go_upto_region 4 with fail
    refine forget (Rs W b w gr gp k nm t F A B C (.slice Au L.length cu) L) I6.out ?_
    clear I6 p0 p1 p2 p3 p4 p5 p6 p7 e3 e4 e5 e6
    rintro Z I
    obtain ⟨p0, p1, p2, p3, p4, p5, p6, p7⟩ := row8 I.rep
    have f0 := I.res.thaw 0
    have f1 := I.res.thaw 1
    have f2 := I.res.thaw 2
    have f3 := I.res.thaw 3
    have f4 := I.res.thaw 4
    have f5 := I.res.thaw 5
    have f6 := I.res.thaw 6
    have f7 := I.res.thaw 7
    obtain ⟨q0, q1, q2, q3, q4, q5, q6, q7⟩ := row8 I.res
    have HZ := Lib.hid (I.fin (.int .i64 k) (.string nm) (.int .i64 t) (.int .i64 F) (.int .i64 A) (.int .i64 B) (.int .i64 C) (.slice Au L.length cu))
    clear I
    go_wp2_with fail
    clear f0 f1 f2 f3 f4 f5 f6 f7 q0 q1 q2 q3 q4 q5 q6 q7 p0 p1 p2 p3 p4 p5 p6 p7
    exact bodyPost_ret (v := repV k nm t F A B C (.slice Au L.length cu)) (results_cell_row Tryz.results9 _ _ gr 26 _ (0, 0) _ rfl HZ.out.2 Tryz.underlying26 rfl (by kernel_rfl)) rfl ⟨k, nm, t, F, A, B, C, _, L, HV.out, ⟨t3, t4⟩, rfl, HZ.out.1⟩
end Go.Proofs.YtneglkfcelpdgaaGreatDoor
