/- Contract of the program's read at the words of valid reports. Reports with their readings, in a row of cells. Contracts of the program's kindOf and stamp.Parse at any word. -/
import Derived.Test.YtfnlgfacadmjpaaGreatDoorGRp
namespace Go.Proofs.YtfnlgfacadmjpaaGreatDoor
open Go.RowKit

theorem set8_row {w : World} {g : Nat} {t : TypeId} {y0 y1 y2 y3 y4 y5 y6 y7 : Value} (u0 u1 u2 u3 u4 u5 u6 u7 : Value) (h : Row w g t #[y0, y1, y2, y3, y4, y5, y6, y7]) :
    Row ((((((((w.setCell ⟨g, 0, none⟩ u0).setCell ⟨g, 1, none⟩ u1).setCell ⟨g, 2, none⟩ u2).setCell ⟨g, 3, none⟩ u3).setCell ⟨g, 4, none⟩ u4).setCell ⟨g, 5, none⟩ u5).setCell ⟨g, 6, none⟩ u6).setCell ⟨g, 7, none⟩ u7) g t #[u0, u1, u2, u3, u4, u5, u6, u7] := by
  have h0 : Row (w.setCell ⟨g, 0, none⟩ u0) g t #[u0, y1, y2, y3, y4, y5, y6, y7] := h.put 0 _
  have h1 : Row ((w.setCell ⟨g, 0, none⟩ u0).setCell ⟨g, 1, none⟩ u1) g t #[u0, u1, y2, y3, y4, y5, y6, y7] := h0.put 1 _
  have h2 : Row (((w.setCell ⟨g, 0, none⟩ u0).setCell ⟨g, 1, none⟩ u1).setCell ⟨g, 2, none⟩ u2) g t #[u0, u1, u2, y3, y4, y5, y6, y7] := h1.put 2 _
  have h3 : Row ((((w.setCell ⟨g, 0, none⟩ u0).setCell ⟨g, 1, none⟩ u1).setCell ⟨g, 2, none⟩ u2).setCell ⟨g, 3, none⟩ u3) g t #[u0, u1, u2, u3, y4, y5, y6, y7] := h2.put 3 _
  have h4 : Row (((((w.setCell ⟨g, 0, none⟩ u0).setCell ⟨g, 1, none⟩ u1).setCell ⟨g, 2, none⟩ u2).setCell ⟨g, 3, none⟩ u3).setCell ⟨g, 4, none⟩ u4) g t #[u0, u1, u2, u3, u4, y5, y6, y7] := h3.put 4 _
  have h5 : Row ((((((w.setCell ⟨g, 0, none⟩ u0).setCell ⟨g, 1, none⟩ u1).setCell ⟨g, 2, none⟩ u2).setCell ⟨g, 3, none⟩ u3).setCell ⟨g, 4, none⟩ u4).setCell ⟨g, 5, none⟩ u5) g t #[u0, u1, u2, u3, u4, u5, y6, y7] := h4.put 5 _
  have h6 : Row (((((((w.setCell ⟨g, 0, none⟩ u0).setCell ⟨g, 1, none⟩ u1).setCell ⟨g, 2, none⟩ u2).setCell ⟨g, 3, none⟩ u3).setCell ⟨g, 4, none⟩ u4).setCell ⟨g, 5, none⟩ u5).setCell ⟨g, 6, none⟩ u6) g t #[u0, u1, u2, u3, u4, u5, u6, y7] := h5.put 6 _
  exact h6.put 7 _
theorem set8_below {w0 w : World} {B g : Nat} {u0 u1 u2 u3 u4 u5 u6 u7 : Value} (h : Below B w0 w) (hg : B ≤ g) :
    Below B w0 ((((((((w.setCell ⟨g, 0, none⟩ u0).setCell ⟨g, 1, none⟩ u1).setCell ⟨g, 2, none⟩ u2).setCell ⟨g, 3, none⟩ u3).setCell ⟨g, 4, none⟩ u4).setCell ⟨g, 5, none⟩ u5).setCell ⟨g, 6, none⟩ u6).setCell ⟨g, 7, none⟩ u7) :=
  (set4_below h hg |>.setCell (p := ⟨g, 4, none⟩) hg _ |>.setCell (p := ⟨g, 5, none⟩) hg _ |>.setCell (p := ⟨g, 6, none⟩) hg _).setCell (p := ⟨g, 7, none⟩) hg _
theorem set8_far {w : World} {g x : Nat} {t : TypeId} {cs : Array Value} (u0 u1 u2 u3 u4 u5 u6 u7 : Value) (h : Row w x t cs) (hx : g ≠ x) :
    Row ((((((((w.setCell ⟨g, 0, none⟩ u0).setCell ⟨g, 1, none⟩ u1).setCell ⟨g, 2, none⟩ u2).setCell ⟨g, 3, none⟩ u3).setCell ⟨g, 4, none⟩ u4).setCell ⟨g, 5, none⟩ u5).setCell ⟨g, 6, none⟩ u6).setCell ⟨g, 7, none⟩ u7) x t cs :=
  (((set4_far u0 u1 u2 u3 h hx |>.far (p := ⟨g, 4, none⟩) hx u4).far (p := ⟨g, 5, none⟩) hx u5).far (p := ⟨g, 6, none⟩) hx u6).far (p := ⟨g, 7, none⟩) hx u7
theorem set8_cell {w : World} {g : Nat} {p : Addr} (h : p.block ≠ g) (u0 u1 u2 u3 u4 u5 u6 u7 : Value) : ((((((((w.setCell ⟨g, 0, none⟩ u0).setCell ⟨g, 1, none⟩ u1).setCell ⟨g, 2, none⟩ u2).setCell ⟨g, 3, none⟩ u3).setCell ⟨g, 4, none⟩ u4).setCell ⟨g, 5, none⟩ u5).setCell ⟨g, 6, none⟩ u6).setCell ⟨g, 7, none⟩ u7).cell? p = w.cell? p := by
  have k : ∀ (W : World) (j : Nat) (u : Value), (W.setCell ⟨g, j, none⟩ u).cell? p = W.cell? p := fun W j u => World.cell?_setCell_other W _ p u (by intro e; subst e; exact h rfl)
  rw [k, k, k, k, k, k, k, k]
theorem drew_cell (w : World) (p : Addr) : w.drew.cell? p = w.cell? p := rfl
theorem rdIn_far {w : World} {g : Nat} {A : Option Addr} {n c : Nat} {L : List El.Elt.R} (h : El.RdIn w (.slice A n c) L) (hn : ∀ i, (Value.slice A n c).ownBlock = some i → i ≠ g) (u0 u1 u2 u3 u4 u5 u6 u7 : Value) :
    El.RdIn (((((((((w.setCell ⟨g, 0, none⟩ u0).setCell ⟨g, 1, none⟩ u1).setCell ⟨g, 2, none⟩ u2).setCell ⟨g, 3, none⟩ u3).setCell ⟨g, 4, none⟩ u4).setCell ⟨g, 5, none⟩ u5).setCell ⟨g, 6, none⟩ u6).setCell ⟨g, 7, none⟩ u7)).drew (.slice A n c) L := by
  obtain ⟨A', c', e, h1, h2, h3⟩ := h
  obtain ⟨rfl, rfl, rfl⟩ : A = A' ∧ n = L.length ∧ c = c' := by injection e with e1 e2 e3; exact ⟨e1, e2, e3⟩
  refine ⟨A, c, rfl, h1, h2, fun i hi => ?_⟩
  obtain ⟨b, off, rfl, hb, c0, c1⟩ := h3 i hi
  have hne : b ≠ g := hn b rfl
  refine ⟨b, off, rfl, ?_, ?_, ?_⟩
  · exact Nat.lt_of_lt_of_le hb (set8_below (u0 := u0) (u1 := u1) (u2 := u2) (u3 := u3) (u4 := u4) (u5 := u5) (u6 := u6) (u7 := u7) (Below.refl 0 w) (Nat.zero_le g)).drew.size
  · rw [drew_cell, set8_cell (p := ⟨b, off + i * 2, none⟩) hne]; exact c0
  · rw [drew_cell, set8_cell (p := ⟨b, off + i * 2 + 1, none⟩) hne]; exact c1
/-- The place behind the head of a report's words. -/
theorem readPl_yes (k : Int) (v : Value) (F A B C : Int) (ws : List (List UInt8)) (w : World) (hW : WIn w v ((if k = 1 then [] else [Pl.txt F.toNat A B]) ++ ws)) (hP : plOk k F A B C = true) :
    Calls Tryz.prog 169 #[.int .i64 k, v] w fun e w' => ∃ v', e = .returned (.tuple #[.agg #[.int .i64 F, .int .i64 A, .int .i64 B, .int .i64 C], v', .int .i64 0]) ∧ WIn w' v' ws ∧ Below w.heap.size w w' := by
  by_cases hk : k = 1
  · subst hk
    rw [if_pos rfl, List.nil_append] at hW
    unfold plOk at hP
    rw [if_pos rfl] at hP
    simp only [Bool.and_eq_true, beq_iff_eq] at hP
    obtain ⟨⟨⟨rfl, rfl⟩, rfl⟩, rfl⟩ := hP
    exact (readPl_land v w).mono fun e w' ⟨he, hg⟩ => ⟨v, he, hW.under hg, hg⟩
  · rw [if_neg hk] at hW
    unfold plOk at hP
    rw [if_neg hk] at hP
    unfold nrm at hP
    obtain ⟨f, rfl, hf⟩ := Pl.vb_to (Bool.and_eq_true_iff.1 hP).1
    exact readPl_sea k hk v f A B C ws w hW hf
set_option maxRecDepth 100000 in
set_option maxHeartbeats 600000 in
theorem read_yes (k : Int) (nm : ByteArray) (t F A B C : Int) (L : List El.Elt.R) (near a : Int) (g off cap : Nat) (w : World) (hE : Env w) (hV : Vd k nm t F A B C L) (hr : rsv (dayOf t) (hourOf t) (minOf t) near = some a)
    (hcap : 4 ≤ cap) (hW : WIn w (.slice (some ⟨g, off, none⟩) (wds k nm t F A B L).length cap) (wds k nm t F A B L)) :
    Calls Tryz.prog 140 #[.slice (some ⟨g, off, none⟩) (wds k nm t F A B L).length cap, .int .i64 near] w fun e w' => ∃ u, e = .returned (.tuple #[repV k nm a F A B C u, .int .i64 0]) ∧ El.RdIn w' u L ∧ (∀ i, u.ownBlock = some i → w.heap.size ≤ i) ∧ Below w.heap.size w w' := by
  obtain ⟨td, th, tm⟩ := dt_bd hV.time
  have HS := Lib.hid (fun w hT => res_yes (dayOf t) (hourOf t) (minOf t) near a w hT (by omega) (by omega) (by omega) hr)
  have HK := Lib.hid (fun w hE => kindOf_yes k hV.kind w hE)
  have HL := Lib.hid (fun v w h1 h2 => readRs_yes v L w h1 h2 (vld_len hV.list) (vld_zero hV.list).1)
  have HP := Lib.hid (fun v w h => readPl_yes k v F A B C (txs L) w h hV.place)
  obtain ⟨nl, rfl⟩ : ∃ nl, nm = S nl := ⟨nm.data.toList, (S_of nm).symm⟩
  obtain ⟨rest, hrest⟩ : ∃ rest, (if k = 1 then [] else [Pl.txt F.toNat A B]) ++ txs L = rest := ⟨_, rfl⟩
  have hwd : wds k (S nl) t F A B L = kw k :: nl :: stp t :: rest := by rw [← hrest]; unfold wds txs; rw [S_list]; simp
  rw [hwd] at hW ⊢
  rw [hrest] at HP
  have hst : stp t = Ck.dig2 (dayOf t) ++ Ck.dig2 (hourOf t) ++ Ck.dig2 (minOf t) := rfl
  rw [← hst] at HS
  obtain ⟨A', cap', he, h1, h2, h3⟩ := hW
  obtain ⟨rfl, rfl⟩ : (some ⟨g, off, none⟩ : Option Addr) = A' ∧ cap = cap' := by injection he with e1 e2 e3; exact ⟨e1, e3⟩
  clear he hr hV hwd hst hrest
  have key : ∀ i (h : i < (kw k :: nl :: stp t :: rest).length), g < w.heap.size ∧ w.cell? ⟨g, off + i, none⟩ = some (.string (S (kw k :: nl :: stp t :: rest)[i])) := fun i hi => by
    obtain ⟨g', off', e, hg, hc⟩ := h3 i hi
    obtain ⟨rfl, rfl⟩ : g = g' ∧ off = off' := by injection e with e; injection e with e1 e2; exact ⟨e1, e2⟩
    exact ⟨hg, hc⟩
  have hg := (key 0 (by simp)).1
  have c0 : w.cell? ⟨g, off, none⟩ = some (.string (S (kw k))) := (key 0 (by simp)).2
  have c1 : w.cell? ⟨g, off + 1, none⟩ = some (.string (S nl)) := (key 1 (by simp)).2
  have c2 : w.cell? ⟨g, off + 2, none⟩ = some (.string (S (stp t))) := (key 2 (by simp)).2
  have HR := Lib.hid (show ∀ i (h : i < rest.length), w.cell? ⟨g, off + (i + 3), none⟩ = some (.string (S rest[i])) from fun i hi => (key (i + 3) (by simp; omega)).2)
  have hlen : (kw k :: nl :: stp t :: rest).length = rest.length + 3 := by simp
  rw [hlen] at h1 ⊢
  clear h3 key hlen
  have n1 : ¬ ((rest.length : Int) + 3 < 3) := by omega
  have n2 : (3 : Int) ≤ (rest.length : Int) + 3 := by omega
  have n3 : (rest.length : Int) + 3 ≤ (cap : Int) := by omega
  have n4 : (3 : Int) < (cap : Int) := by omega
  have n5 : ¬ (cap - 3 = 0) := by omega
  have n6 : ((rest.length : Int) + 3 - 3).toNat = rest.length := by omega
  generalize S (kw k) = wk at *
  generalize S (stp t) = wst at *
  generalize S nl = nm at *
  have C0 := Lib.hid c0
  have C1 := Lib.hid c1
  have C2 := Lib.hid c2
  have b4 := (Below.refl w.heap.size w).alloc (Nat.le_refl _) (.cells (repC 0 ⟨#[]⟩ 0 0 0 0 0 (.slice none 0 0)) 53)
  have r4 := Row.new w (repC 0 ⟨#[]⟩ 0 0 0 0 0 (.slice none 0 0)) 53
  have hE4 := hE.under b4
  go_enter Tryz.func140, Tryz.ntmps140
  go_wp2_with fail
  generalize w.alloc (.cells (repC 0 ⟨#[]⟩ 0 0 0 0 0 (.slice none 0 0)) 53) = W0 at *
  refine (HK.out _ hE4).mono ?_
  rintro e w1 ⟨rfl, rfl⟩
  have d2 := (b4.cell (p := ⟨g, off + 2, none⟩) hg).trans C2.out
  clear c0 c1 c2
  go_wp2_with fail
  refine (HS.out _ hE4.ck).mono ?_
  rintro e w2 ⟨rfl, g2⟩
  have b5 := b4.trans (g2.mono b4.size)
  have r5 := r4.under g2
  have hE5 := hE4.under g2
  clear g2 b4 r4 hE4 d2
  have hwi : WIn w2 (.slice (some ⟨g, off + 3, none⟩) rest.length (cap - 3)) rest := ⟨_, _, rfl, by omega, by omega, fun i hi => ⟨g, off + 3, rfl, Nat.lt_of_lt_of_le hg b5.size, by
    rw [show off + 3 + i = off + (i + 3) by omega]
    exact (b5.cell (p := ⟨g, off + (i + 3), none⟩) hg).trans (HR.out i hi)⟩⟩
  go_wp2_with fail
  refine (HP.out _ _ hwi).mono ?_
  rintro e w3 ⟨v', rfl, hw3, g3⟩
  have b6 := (b5.trans (g3.mono b5.size)).alloc (Nat.le_trans b5.size g3.size) (.cells #[.int .i64 F, .int .i64 A, .int .i64 B, .int .i64 C] 50)
  have r6 := (r5.under g3).alloc (.cells #[.int .i64 F, .int .i64 A, .int .i64 B, .int .i64 C] 50)
  have rp := Row.new w3 #[.int .i64 F, .int .i64 A, .int .i64 B, .int .i64 C] 50
  have hE6 := (hE5.under g3).alloc (.cells #[.int .i64 F, .int .i64 A, .int .i64 B, .int .i64 C] 50)
  have hw6 := hw3.under ((Below.refl _ _).alloc (Nat.le_refl _) (.cells #[.int .i64 F, .int .i64 A, .int .i64 B, .int .i64 C] 50))
  have hne : w.heap.size ≠ w3.heap.size := Nat.ne_of_lt (Nat.lt_of_lt_of_le r5.lt g3.size)
  clear g3 b5 r5 hE5 hw3 hwi HP
  go_upto_region 12 with fail
  generalize w3.alloc (.cells #[.int .i64 F, .int .i64 A, .int .i64 B, .int .i64 C] 50) = W6 at *
  generalize w3.heap.size = gp at *
  go_wp2_with fail
  refine (HL.out v' _ hw6 hE6).mono ?_
  rintro e w7 ⟨u, rfl, hR7⟩
  have g7 := hR7.below
  have b7 := b6.trans (g7.mono b6.size)
  have r7 := r6.under g7
  have rp7 := rp.under g7
  have d1 := (b7.cell (p := ⟨g, off + 1, none⟩) hg).trans C1.out
  have HRd : Hid (El.RdIn w7 u L) := Lib.hid (El.RdIn.own hR7.own)
  obtain ⟨Au, cu, rfl, -⟩ := id HRd.out
  have HO := Lib.hid (fun i (e : (Value.slice Au L.length cu).ownBlock = some i) => (show w.heap.size < i from (Nat.lt_of_lt_of_le r6.lt (hR7.own.lt i e).1)))
  clear b6 r6 rp hE6 hw6 g7 hR7 HL
  go_upto_region 15 with fail
  have f0 := r7.thaw 0
  have f1 := r7.thaw 1
  have f2 := r7.thaw 2
  have f3 := r7.thaw 3
  have f4 := r7.thaw 4
  have f5 := r7.thaw 5
  have f6 := r7.thaw 6
  have f7 := r7.thaw 7
  obtain ⟨q0, q1, q2, q3, q4, q5, q6, q7⟩ := row8 r7
  obtain ⟨p0, p1, p2, p3⟩ := row4 rp7
  have HZ := Lib.hid (set8_row (.int .i64 k) (.string nm) (.int .i64 a) (.int .i64 F) (.int .i64 A) (.int .i64 B) (.int .i64 C) (.slice Au L.length cu) r7).drew
  have HF := Lib.hid (set8_below (u0 := .int .i64 k) (u1 := .string nm) (u2 := .int .i64 a) (u3 := .int .i64 F) (u4 := .int .i64 A) (u5 := .int .i64 B) (u6 := .int .i64 C) (u7 := .slice Au L.length cu) b7 (Nat.le_refl _)).drew
  have HQ := Lib.hid (set8_far (.int .i64 k) (.string nm) (.int .i64 a) (.int .i64 F) (.int .i64 A) (.int .i64 B) (.int .i64 C) (.slice Au L.length cu) rp7 hne).drew
  have RP := Lib.hid rp7
  have B7 := Lib.hid b7
  have D1 := Lib.hid d1
  clear r7 rp7 b7
  have xw : IntKind.i64.wrap 1 = 1 := by decide
  have n7 : (1 : Int) < (rest.length : Int) + 3 := by omega
  refine wp_region_held_drew (S := fun w' : World => w'.cell? ⟨g, off + 1, none⟩ = some (.string nm) ∧ w'.cell? ⟨gp, 0, none⟩ = some (.int .i64 F) ∧ w'.cell? ⟨gp, 1, none⟩ = some (.int .i64 A) ∧ w'.cell? ⟨gp, 2, none⟩ = some (.int .i64 B) ∧ w'.cell? ⟨gp, 3, none⟩ = some (.int .i64 C)) (by kernel_rfl) ⟨d1, p0, p1, p2, p3⟩ (fun hHeld => ?_)
  refine wpAnyH_take (i := 0) (v := ?_) rfl (by kernel_rfl) (by kernel_rfl) (by kernel_rfl) (fun _ _ _ h => h) (Or.inl ⟨by rfl, ?_⟩) (by assumption) ?_
  case refine_2 => (intro wx hSx; (try dsimp only at hSx); go_simp; first | done | with_reducible rfl)
  try simp only [Act.put]
  refine wpAnyH_take (i := 1) (v := ?_) rfl (by kernel_rfl) (by kernel_rfl) (by kernel_rfl) (fun _ _ _ h => h) (Or.inl ⟨by rfl, ?_⟩) (by assumption) ?_
  case refine_2 => (intro wx hSx; (try dsimp only at hSx); go_simp; first | done | with_reducible rfl)
  try simp only [Act.put]
  refine wpAnyH_take (i := 2) (v := ?_) rfl (by kernel_rfl) (by kernel_rfl) (by kernel_rfl) (fun _ _ _ h => h) (Or.inl ⟨by rfl, ?_⟩) (by assumption) ?_
  case refine_2 => (intro wx hSx; (try dsimp only at hSx); go_simp; first | done | with_reducible rfl)
  try simp only [Act.put]
  refine wpAnyH_take (i := 3) (v := ?_) rfl (by kernel_rfl) (by kernel_rfl) (by kernel_rfl) (fun _ _ _ h => h) (Or.inl ⟨by rfl, ?_⟩) (by assumption) ?_
  case refine_2 => (intro wx hSx; (try dsimp only at hSx); go_simp; first | done | with_reducible rfl)
  try simp only [Act.put]
  refine wpAnyH_take (i := 4) (v := ?_) rfl (by kernel_rfl) (by kernel_rfl) (by kernel_rfl) (fun _ _ _ h => h) (Or.inl ⟨by rfl, ?_⟩) (by assumption) ?_
  case refine_2 => (intro wx hSx; (try dsimp only at hSx); go_simp; first | done | with_reducible rfl)
  try simp only [Act.put]
  refine wpAnyH_take (i := 5) (v := ?_) rfl (by kernel_rfl) (by kernel_rfl) (by kernel_rfl) (fun _ _ _ h => h) (Or.inl ⟨by rfl, ?_⟩) (by assumption) ?_
  case refine_2 => (intro wx hSx; (try dsimp only at hSx); go_simp; first | done | with_reducible rfl)
  try simp only [Act.put]
  refine wpAnyH_take (i := 6) (v := ?_) rfl (by kernel_rfl) (by kernel_rfl) (by kernel_rfl) (fun _ _ _ h => h) (Or.inl ⟨by rfl, ?_⟩) (by assumption) ?_
  case refine_2 => (intro wx hSx; (try dsimp only at hSx); go_simp; first | done | with_reducible rfl)
  try simp only [Act.put]
  refine wpAnyH_take (i := 7) (v := ?_) rfl (by kernel_rfl) (by kernel_rfl) (by kernel_rfl) (fun _ _ _ h => h) (Or.inl ⟨by rfl, ?_⟩) (by assumption) ?_
  case refine_2 => (intro wx hSx; (try dsimp only at hSx); go_simp; first | done | with_reducible rfl)
  try simp only [Act.put]
  refine wpAnyH_ready (rs := [8]) (by kernel_rfl) (by simp) ?_
  refine AllReadyH.cons (o := ⟨none, _, _, _, _, none⟩) rfl (fun K hK => ?_) AllReadyH.nil
  go_simp
  refine hK.out _ _ ⟨(HF.out.cell (p := ⟨g, off + 1, none⟩) hg).trans C1.out, row4 HQ.out⟩ (fun hHeld2 => ?_)
  clear hK K hHeld
  try simp only [Act.put]
  refine wpAnyH_take (i := 9) (oi := ⟨some 5, _, _, _, _, none⟩) (v := ?_) rfl (by kernel_rfl) (by kernel_rfl) (by kernel_rfl) (fun _ _ _ h => h) (Or.inl ⟨by rfl, ?_⟩) (by assumption) ?_
  case refine_2 => (intro wx hSx; (try dsimp only at hSx); go_simp; first | done | with_reducible rfl)
  try simp only [Act.put]
  refine wpAnyH_done (by kernel_rfl) ?_ _
  clear f0 f1 f2 f3 f4 f5 f6 f7 q0 q1 q2 q3 q4 q5 q6 q7 p0 p1 p2 p3 d1
  go_wp2_with fail
  exact bodyPost_ret (v := .tuple #[repV k nm a F A B C (.slice Au L.length cu), .int .i64 0]) (by obtain ⟨z0, z1, z2, z3, z4, z5, z6, z7⟩ := row8 HZ.out; simp [results, Tryz.results140, z0, z1, z2, z3, z4, z5, z6, z7, go_sem]) rfl ⟨_, rfl, rdIn_far HRd.out (fun i e => Nat.ne_of_gt (HO.out i e)) _ _ _ _ _ _ _ _, fun i e => Nat.le_of_lt (HO.out i e), HF.out⟩
end Go.Proofs.YtfnlgfacadmjpaaGreatDoor
namespace Go.Proofs.YtfnlgfacadmjpaaGreatDoor
open Go.RowKit

/-- A report with its readings. -/
structure Rp where
  k : Int
  nm : ByteArray
  t : Int
  F : Int
  A : Int
  B : Int
  C : Int
  u : Value
  L : List El.Elt.R
abbrev Rp.v (r : Rp) : Value := repV r.k r.nm r.t r.F r.A r.B r.C r.u
def Rp.key (r : Rp) : Int × ByteArray × Int × (Int × Int × Int × Int) × List El.Elt.R := (r.k, r.nm, r.t, (r.F, r.A, r.B, r.C), r.L)
def rpCells (r : Rp) : List Value := [.int .i64 r.k, .string r.nm, .int .i64 r.t, .int .i64 r.F, .int .i64 r.A, .int .i64 r.B, .int .i64 r.C, r.u]
def rpc (R : List Rp) : List Value := R.flatMap rpCells
/-- The cells of one report in a row of reports. -/
def At8 (V : World) (g o : Nat) (r : Rp) : Prop :=
  V.cell? ⟨g, o, none⟩ = some (.int .i64 r.k) ∧ V.cell? ⟨g, o + 1, none⟩ = some (.string r.nm) ∧ V.cell? ⟨g, o + 2, none⟩ = some (.int .i64 r.t) ∧ V.cell? ⟨g, o + 3, none⟩ = some (.int .i64 r.F) ∧ V.cell? ⟨g, o + 4, none⟩ = some (.int .i64 r.A) ∧ V.cell? ⟨g, o + 5, none⟩ = some (.int .i64 r.B) ∧ V.cell? ⟨g, o + 6, none⟩ = some (.int .i64 r.C) ∧ V.cell? ⟨g, o + 7, none⟩ = some r.u
theorem At8.under {V w : World} {g o : Nat} {r : Rp} (h : At8 V g o r) (hg : g < V.heap.size) (hb : Below V.heap.size V w) : At8 w g o r := by
  obtain ⟨h0, h1, h2, h3, h4, h5, h6, h7⟩ := h
  exact ⟨(hb.cell (p := ⟨g, o, none⟩) hg).trans h0, (hb.cell (p := ⟨g, o + 1, none⟩) hg).trans h1, (hb.cell (p := ⟨g, o + 2, none⟩) hg).trans h2, (hb.cell (p := ⟨g, o + 3, none⟩) hg).trans h3, (hb.cell (p := ⟨g, o + 4, none⟩) hg).trans h4, (hb.cell (p := ⟨g, o + 5, none⟩) hg).trans h5, (hb.cell (p := ⟨g, o + 6, none⟩) hg).trans h6, (hb.cell (p := ⟨g, o + 7, none⟩) hg).trans h7⟩
theorem rpc_at : ∀ (R : List Rp) (i : Nat) (h : i < R.length), ∀ j : Nat, j < 8 → (rpc R)[i * 8 + j]? = (rpCells R[i])[j]?
  | x :: r, 0, _, j, hj => by
    show (rpCells x ++ rpc r)[0 * 8 + j]? = _
    rw [Nat.zero_mul, Nat.zero_add, List.getElem?_append_left (by exact hj)]
    rfl
  | x :: r, i + 1, h, j, hj => by
    have := rpc_at r i (by simpa using h) j hj
    show (rpCells x ++ rpc r)[(i + 1) * 8 + j]? = _
    rw [List.getElem?_append_right (by show 8 ≤ _; omega), show (i + 1) * 8 + j - (rpCells x).length = i * 8 + j by show (i + 1) * 8 + j - 8 = _; omega]
    exact this
theorem at8_row {V : World} {g : Nat} {R : List Rp} (h : Row V g 53 (rpc R).toArray) (i : Nat) (hi : i < R.length) : At8 V g (i * 8) R[i] := by
  have k : ∀ j < 8, V.cell? ⟨g, i * 8 + j, none⟩ = (rpCells R[i])[j]? := fun j hj => by
    rw [h.cell, List.getElem?_toArray]
    exact rpc_at R i hi j hj
  exact ⟨k 0 (by omega), k 1 (by omega), k 2 (by omega), k 3 (by omega), k 4 (by omega), k 5 (by omega), k 6 (by omega), k 7 (by omega)⟩
theorem Vd.short {k : Int} {nm : ByteArray} {t F A B C : Int} {L : List El.Elt.R} (h : Vd k nm t F A B C L) : nm.size ≤ 40 := by
  have h5 := h.name
  unfold nameOk at h5
  rw [Bool.and_eq_true, decide_eq_true_iff] at h5
  omega
end Go.Proofs.YtfnlgfacadmjpaaGreatDoor
namespace Go.Proofs.YtfnlgfacadmjpaaGreatDoor
open Go.RowKit
open Ck (dig2 b10)

set_option maxHeartbeats 1000000 in
theorem kindOf_no (s : ByteArray) (w : World) (hE : Env w) (h1 : s ≠ S (kw 1)) (h2 : s ≠ S (kw 2)) (h3 : s ≠ S (kw 3)) :
    Calls Tryz.prog 168 #[.string s] w fun e w' => e = .returned (.tuple #[.int .i64 0, .int .i64 3]) ∧ w' = w := by
  obtain ⟨c0, c1, c2⟩ := load_kinds w hE
  clear hE
  have e1 : ((S (kw 1)).toList == s.toList) = false := toList_ne fun e => h1 e.symm
  have e2 : ((S (kw 2)).toList == s.toList) = false := toList_ne fun e => h2 e.symm
  have e3 : ((S (kw 3)).toList == s.toList) = false := toList_ne fun e => h3 e.symm
  have j0 : ∀ w, (Instr.index 103 (.agg #[.string (S (kw 1)), .string (S (kw 2)), .string (S (kw 3))]) (.int .i64 0)).run Tryz.prog w = .ok (.string (S (kw 1))) w := fun _ => by kernel_rfl
  have j1 : ∀ w, (Instr.index 103 (.agg #[.string (S (kw 1)), .string (S (kw 2)), .string (S (kw 3))]) (.int .i64 1)).run Tryz.prog w = .ok (.string (S (kw 2))) w := fun _ => by kernel_rfl
  have j2 : ∀ w, (Instr.index 103 (.agg #[.string (S (kw 1)), .string (S (kw 2)), .string (S (kw 3))]) (.int .i64 2)).run Tryz.prog w = .ok (.string (S (kw 3))) w := fun _ => by kernel_rfl
  clear h1 h2 h3
  generalize S (kw 1) = s1 at *
  generalize S (kw 2) = s2 at *
  generalize S (kw 3) = s3 at *
  go_enter Tryz.func168, Tryz.ntmps168
  go_wp2_with fail
  go_loop [4, 5, 7] (fun _ _ t => t = .int .i64 0 ∨ t = .int .i64 1 ∨ t = .int .i64 2 ∨ t = .int .i64 3) (fun _ _ t => (3 - intOf t).toNat)
  case atStart => exact .inl rfl
  case round =>
    rcases hrel with rfl | rfl | rfl | rfl
    · go_wp2_with fail
      go_round
      case rel => exact .inr (.inl rfl)
      case measure => simp [intOf]
    · go_wp2_with fail
      go_round
      case rel => exact .inr (.inr (.inl rfl))
      case measure => simp [intOf]
    · go_wp2_with fail
      go_round
      case rel => exact .inr (.inr (.inr rfl))
      case measure => simp [intOf]
    · go_wp2_with fail
      go_ret2
      exact ⟨rfl, rfl⟩
/-- A word names a minute near another one. -/
def Stm (l : List UInt8) (near a : Int) : Prop := ∃ d h i : Int, (0 ≤ d ∧ d ≤ 99) ∧ (0 ≤ h ∧ h ≤ 99) ∧ (0 ≤ i ∧ i ≤ 99) ∧ l = dig2 d ++ dig2 h ++ dig2 i ∧ rsv d h i near = some a
theorem dig2_of {a b : UInt8} (ha : 48 ≤ a.toNat ∧ a.toNat ≤ 57) (hb : 48 ≤ b.toNat ∧ b.toNat ≤ 57) : ∃ n : Int, (0 ≤ n ∧ n ≤ 99) ∧ dig2 n = [a, b] := by
  refine ⟨10 * ((a.toNat : Int) - 48) + ((b.toNat : Int) - 48), by omega, ?_⟩
  have e1 : (10 * ((a.toNat : Int) - 48) + ((b.toNat : Int) - 48)) / 10 = (a.toNat : Int) - 48 := by omega
  have e2 : (10 * ((a.toNat : Int) - 48) + ((b.toNat : Int) - 48)) % 10 = (b.toNat : Int) - 48 := by omega
  unfold dig2
  rw [e1, e2]
  congr 1
  · have := b10_toNat (x := (a.toNat : Int) - 48) (by omega) (by omega)
    exact UInt8.toNat_inj.1 (by omega)
  · congr 1
    have := b10_toNat (x := (b.toNat : Int) - 48) (by omega) (by omega)
    exact UInt8.toNat_inj.1 (by omega)
theorem six_of {l : List UInt8} (h6 : l.length = 6) (hd : Pl.digs l = true) : ∃ d h i : Int, (0 ≤ d ∧ d ≤ 99) ∧ (0 ≤ h ∧ h ≤ 99) ∧ (0 ≤ i ∧ i ≤ 99) ∧ l = dig2 d ++ dig2 h ++ dig2 i := by
  match l, h6 with
  | [a, b, c, d, e, f], _ =>
    rw [Pl.digs_cons, Pl.digs_cons, Pl.digs_cons, Pl.digs_cons, Pl.digs_cons, Pl.digs_cons] at hd
    obtain ⟨ha, hb, hc, hd, he, hf, -⟩ := hd
    obtain ⟨x, x1, x2⟩ := dig2_of ha hb
    obtain ⟨y, y1, y2⟩ := dig2_of hc hd
    obtain ⟨z, z1, z2⟩ := dig2_of he hf
    exact ⟨x, y, z, x1, y1, z1, by rw [x2, y2, z2]; rfl⟩
theorem dig2_inj {m n : Int} (hm : 0 ≤ m ∧ m ≤ 99) (hn : 0 ≤ n ∧ n ≤ 99) (h : dig2 m = dig2 n) : m = n := by
  rw [← numv_dig2 hm.1 hm.2, ← numv_dig2 hn.1 hn.2, h]
theorem six_inj {d h i d' h' i' : Int} (h1 : 0 ≤ d ∧ d ≤ 99) (h2 : 0 ≤ h ∧ h ≤ 99) (h3 : 0 ≤ i ∧ i ≤ 99) (g1 : 0 ≤ d' ∧ d' ≤ 99) (g2 : 0 ≤ h' ∧ h' ≤ 99) (g3 : 0 ≤ i' ∧ i' ≤ 99)
    (e : dig2 d ++ dig2 h ++ dig2 i = dig2 d' ++ dig2 h' ++ dig2 i') : d = d' ∧ h = h' ∧ i = i' := by
  obtain ⟨e1, e3⟩ := List.append_inj e (by rfl)
  obtain ⟨e1, e2⟩ := List.append_inj e1 (by rfl)
  exact ⟨dig2_inj h1 g1 e1, dig2_inj h2 g2 e2, dig2_inj h3 g3 e3⟩
theorem resolve_none (d h i near : Int) (w0 w : World) (hT : Ck.Tab w0) (hr : rsv d h i near = none) (hb : Below w0.heap.size w0 w) :
    Calls Tryz.prog 79 #[.int .i64 d, .int .i64 h, .int .i64 i, .int .i64 near] w fun e w' => e = .returned (.tuple #[.int .i64 0, .int .i64 1]) ∧ Below w0.heap.size w0 w' :=
  (resolve_is d h i near w (hT.under hb)).mono fun _ _ ⟨hc, hg⟩ => by
    rcases hc with ⟨-, b, hb2, rfl⟩ | ⟨-, -, rfl⟩
    · rw [hr] at hb2; cases hb2
    · exact ⟨rfl, hb.trans (hg.mono hb.size)⟩
set_option maxHeartbeats 1000000 in
set_option maxRecDepth 100000 in
theorem res_none (d h i near : Int) (w : World) (hT : Ck.Tab w) (hn : 0 ≤ near ∧ near ≤ 52595999) (h1 : 0 ≤ d ∧ d ≤ 99) (h2 : 0 ≤ h ∧ h ≤ 99) (h3 : 0 ≤ i ∧ i ≤ 99) (hr : rsv d h i near = none) :
    Calls Tryz.prog 88 #[.string (S (dig2 d ++ dig2 h ++ dig2 i)), .int .i64 near] w fun e w' => e = .returned (.tuple #[.int .i64 0, .int .i64 3]) ∧ Below w.heap.size w w' := by
  obtain ⟨near1, near2⟩ := hn
  have sz : (S (dig2 d ++ dig2 h ++ dig2 i)).size = 6 := by rw [S_size]; rfl
  have q : (((S (dig2 d ++ dig2 h ++ dig2 i)).size : Int) != 6) = false := by rw [sz]; rfl
  have x1 : (S (dig2 d ++ dig2 h ++ dig2 i)).extract 0 2 = S (dig2 d) := by rw [extract_S]; rfl
  have x2 : (S (dig2 d ++ dig2 h ++ dig2 i)).extract 2 4 = S (dig2 h) := by rw [extract_S]; rfl
  have x3 : (S (dig2 d ++ dig2 h ++ dig2 i)).extract 4 6 = S (dig2 i) := by rw [extract_S]; rfl
  have hd : Pl.digs (S (dig2 d ++ dig2 h ++ dig2 i)).data.toList = true := by
    rw [S_list, digs_app, digs_app, digs_dig2 h1.1 h1.2, digs_dig2 h2.1 h2.2, digs_dig2 h3.1 h3.2]; rfl
  have TA := Lib.hid (fun w => trim_any (S (dig2 d ++ dig2 h ++ dig2 i)) Pl.ten w (by omega) (by omega) (by decide) (by decide) (by decide))
  rw [Pl.trim_digs hd] at TA
  have e0 := empty_eq
  have RS := Lib.hid (fun w0 w hT hb => resolve_none d h i near w0 w hT hr hb)
  generalize S (dig2 d ++ dig2 h ++ dig2 i) = s at *
  generalize hy : (⟨([] : List UInt8).toArray⟩ : ByteArray) = y at *
  have HY := Lib.hid hy
  clear hy hd hr
  go_enter Tryz.func88, Tryz.ntmps88
  go_wp2_with fail
  refine (TA.out _).mono ?_
  rintro e w1 ⟨rfl, g1⟩
  have G1 := Lib.hid g1
  have T1 := Lib.hid (hT.under g1)
  clear g1 hT TA
  go_upto_region 5 with fail
  have hb2 := Below.refl w1.drew.heap.size w1.drew
  have T1 : Hid (Ck.Tab w1.drew) := Lib.hid T1.out.drew
  go_region_held3 (fun _ => True) (trivial)
    (first | (go_at_call 137; refine (number_from _ w1.drew _ (by omega) (by omega) hb2).mono ?_; clear hb2; rintro e w2 ⟨rfl, hb2⟩) | (go_at_call 79; refine (RS.out w1.drew _ T1.out hb2).mono ?_; clear hb2; rintro e w2 ⟨rfl, hb2⟩))
  go_wp2_with fail
  go_ret2
  exact ⟨rfl, G1.out.trans ((undrew hb2).mono G1.out.size)⟩
set_option maxHeartbeats 400000 in
theorem res_len (s : ByteArray) (near : Int) (w : World) (hn : 0 ≤ near ∧ near ≤ 52595999) (hs : s.size ≠ 6) :
    Calls Tryz.prog 88 #[.string s, .int .i64 near] w fun e w' => e = .returned (.tuple #[.int .i64 0, .int .i64 3]) ∧ Below w.heap.size w w' := by
  obtain ⟨near1, near2⟩ := hn
  have q : ((s.size : Int) != 6) = true := by rw [bne_iff_ne]; omega
  clear hs
  go_enter Tryz.func88, Tryz.ntmps88
  go_wp2_with fail
  go_ret2
  exact ⟨rfl, Below.refl _ _⟩
set_option maxHeartbeats 400000 in
theorem res_bad (s : ByteArray) (near : Int) (w : World) (hn : 0 ≤ near ∧ near ≤ 52595999) (hs : s.size = 6) (hd : Pl.digs s.data.toList = false) :
    Calls Tryz.prog 88 #[.string s, .int .i64 near] w fun e w' => e = .returned (.tuple #[.int .i64 0, .int .i64 3]) ∧ Below w.heap.size w w' := by
  obtain ⟨near1, near2⟩ := hn
  have q : ((s.size : Int) != 6) = false := by rw [hs]; rfl
  have TA := Lib.hid (fun w => trim_any s Pl.ten w (by omega) (by omega) (by decide) (by decide) (by decide))
  have hne := Pl.trim_other hd
  have e0 : ((⟨(Lib.trimS s.data.toList Pl.ten.data.toList).toArray⟩ : ByteArray).toList == []) = false := by
    rw [ByteArray.toList_eq, beq_eq_false_iff_ne]
    intro e
    exact hne (by simpa using e)
  generalize hy : (⟨(Lib.trimS s.data.toList Pl.ten.data.toList).toArray⟩ : ByteArray) = y at *
  have HY := Lib.hid hy
  clear hy hd hne hs
  go_enter Tryz.func88, Tryz.ntmps88
  go_wp2_with fail
  refine (TA.out _).mono ?_
  rintro e w1 ⟨rfl, g1⟩
  go_wp2_with fail
  go_ret2
  exact ⟨rfl, g1⟩
/-- The program's stamp.Parse at any word. -/
theorem stampP_any (l : List UInt8) (near : Int) (w : World) (hT : Ck.Tab w) (hn : 0 ≤ near ∧ near ≤ 52595999) :
    Calls Tryz.prog 88 #[.string (S l), .int .i64 near] w fun e w' => ((∃ a, Stm l near a ∧ e = .returned (.tuple #[.int .i64 a, .int .i64 0])) ∨ ((∀ a, ¬ Stm l near a) ∧ e = .returned (.tuple #[.int .i64 0, .int .i64 3]))) ∧ Below w.heap.size w w' := by
  by_cases h6 : l.length = 6
  · cases hd : Pl.digs l
    · refine (res_bad (S l) near w hn (by rw [S_size]; exact h6) (by rw [S_list]; exact hd)).mono fun e w' ⟨he, hg⟩ => ⟨.inr ⟨fun a ⟨d, h, i, x1, x2, x3, x4, _⟩ => ?_, he⟩, hg⟩
      rw [x4, digs_app, digs_app, digs_dig2 x1.1 x1.2, digs_dig2 x2.1 x2.2, digs_dig2 x3.1 x3.2] at hd
      cases hd
    · obtain ⟨d, h, i, x1, x2, x3, rfl⟩ := six_of h6 hd
      cases hr : rsv d h i near with
      | none =>
        refine (res_none d h i near w hT hn x1 x2 x3 hr).mono fun e w' ⟨he, hg⟩ => ⟨.inr ⟨fun a ⟨d', h', i', y1, y2, y3, y4, y5⟩ => ?_, he⟩, hg⟩
        obtain ⟨rfl, rfl, rfl⟩ := six_inj x1 x2 x3 y1 y2 y3 y4
        rw [hr] at y5; cases y5
      | some a => exact (res_yes d h i near a w hT x1 x2 x3 hr).mono fun e w' ⟨he, hg⟩ => ⟨.inl ⟨a, ⟨d, h, i, x1, x2, x3, rfl, hr⟩, he⟩, hg⟩
  · refine (res_len (S l) near w hn (by rw [S_size]; exact h6)).mono fun e w' ⟨he, hg⟩ => ⟨.inr ⟨fun a ⟨d, h, i, x1, x2, x3, x4, _⟩ => h6 (by rw [x4]; rfl), he⟩, hg⟩
end Go.Proofs.YtfnlgfacadmjpaaGreatDoor
