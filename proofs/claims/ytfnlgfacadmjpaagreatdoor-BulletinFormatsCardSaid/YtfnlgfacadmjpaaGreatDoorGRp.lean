/- A list of words in memory; contracts of the program's readPlace and readReadings at the words of valid reports. Contract of the program's readPlace at the words of valid reports. -/
import Derived.Test.YtfnlgfacadmjpaaGreatDoorEWith
import Derived.Test.YtfnlgfacadmjpaaGreatDoorGForm
import Derived.Test.YtfnlgfacadmjpaaGreatDoorPParseTwo
import Derived.Test.YtfnlgfacadmjpaaGreatDoorPBothParse
namespace Go.Proofs.YtfnlgfacadmjpaaGreatDoor
open Go.RowKit

/-- A list of words as the program holds it. -/
def WIn (w : World) (v : Value) (ws : List (List UInt8)) : Prop := ∃ A cap, v = .slice A ws.length cap ∧ ws.length ≤ cap ∧ cap ≤ 9223372036854775807 ∧ ∀ i (h : i < ws.length), ∃ g off, A = some ⟨g, off, none⟩ ∧ g < w.heap.size ∧ w.cell? ⟨g, off + i, none⟩ = some (.string (S ws[i]))
theorem WIn.under {w w' : World} {v : Value} {ws : List (List UInt8)} (h : WIn w v ws) (hb : Below w.heap.size w w') : WIn w' v ws := by
  obtain ⟨A, cap, rfl, h1, h2, h3⟩ := h
  refine ⟨A, cap, rfl, h1, h2, fun i hi => ?_⟩
  obtain ⟨g, off, rfl, hg, hc⟩ := h3 i hi
  exact ⟨g, off, rfl, Nat.lt_of_lt_of_le hg hb.size, (hb.cell (p := ⟨g, off + i, none⟩) hg).trans hc⟩
theorem ids_of {L M : List El.Elt.R} (h : L = M) : L = M := h
/-- The readings of a list of words. -/
def txs (L : List El.Elt.R) : List (List UInt8) := L.map fun r => El.Elt.txt r.1 r.2
/-- A list of readings of its own, in the making. -/
structure Rl (w0 : World) (M : List El.Elt.R) (u : Value) (w : World) : Prop where
  below : Below w0.heap.size w0 w
  own : w.ownsRow w0.heap.size 99 2 u M.length (El.rdc M)
theorem Rl.under {w0 w w' : World} {M : List El.Elt.R} {u : Value} (h : Rl w0 M u w) (hb : Below w.heap.size w w') : Rl w0 M u w' := ⟨h.below.trans (hb.mono h.below.size), El.own_under h.own hb⟩
theorem Rl.more {w0 w w' : World} {M : List El.Elt.R} {u u' : Value} {x : El.Elt.R} (h : Rl w0 M u w)
    (hown : w'.ownsRow w0.heap.size 99 2 u' (M.length + 1) (El.rdc M ++ [.int .i64 x.1, .int .i64 x.2])) (hg : w.grownBy w' u.ownBlock) : Rl w0 (M ++ [x]) u' w' :=
  ⟨El.below_own h.below h.below.size h.own hg, by rw [El.rdc_snoc, List.length_append]; exact hown⟩
set_option maxHeartbeats 2000000 in
theorem readRs_yes (v : Value) (L : List El.Elt.R) (w : World) (hW : WIn w v (txs L)) (hE : Env w) (hl : L.length ≤ 11) (hV : ∀ r ∈ L, El.Elt.Val r.1 r.2) :
    Calls Tryz.prog 170 #[v] w fun e w' => ∃ u, e = .returned (.tuple #[u, .int .i64 0]) ∧ Rl w L u w' := by
  obtain ⟨i0, hi, hz0, hz1, hz2⟩ := info_parts El.infoReading
  have hlen : (txs L).length = L.length := List.length_map _
  obtain ⟨A, cap, rfl, h1, h2, h3⟩ := hW
  have H3 := Lib.hid h3
  have HV := Lib.hid hV
  rw [hlen] at h1
  rw [hlen]
  clear h3 hV
  go_enter Tryz.func170, Tryz.ntmps170
  go_wp2_with fail
  go_loopw [4, 6, 7, 8, 11] (fun u _ _ _ t wr => ∃ k : Nat, k ≤ L.length ∧ t = .int .i64 k ∧ Rl w (L.take k) u wr) (fun _ _ _ _ t _ => L.length - (intOf t).toNat)
  case atStart => exact ⟨0, Nat.zero_le _, rfl, Below.refl _ _, World.ownsRow_nil _ _ _ _⟩
  case round =>
    obtain ⟨k, hk, rfl, hr⟩ := hrel
    have HR := Lib.hid hr; clear hr
    by_cases hlt : k < L.length
    · obtain ⟨g, off, rfl, hg, c0⟩ := H3.out k (by rw [hlen]; exact hlt)
      have c0 := (HR.out.below.cell (p := ⟨g, off + k, none⟩) hg).trans c0
      rw [show (txs L)[k]'(by rw [hlen]; exact hlt) = El.Elt.txt (L[k]).1 (L[k]).2 by unfold txs; rw [List.getElem_map]] at c0
      have k0 : (0 : Int) ≤ (k : Int) := by omega
      have k1 : (k : Int) < (L.length : Int) := by omega
      have x1 : IntKind.i64.wrap (k : Int) = (k : Int) := IntWalk.i64_in _ (by omega)
      have hv := Lib.hid (HV.out _ (List.getElem_mem hlt))
      have hn := Lib.hid (show L.take (k + 1) = L.take k ++ [L[k]] from List.take_succ_eq_append_getElem hlt)
      have hml : (L.take k).length ≤ 11 := by rw [List.length_take]; omega
      generalize L[k] = x at *
      obtain ⟨x0, x2⟩ := x
      simp only at c0 hv
      generalize L.take k = M at *
      have HP := Lib.hid (El.parse_yes x0 x2 _ (hE.under HR.out.below).el hv.out)
      generalize S (El.Elt.txt x0 x2) = tx at *
      go_wp2_with fail
      refine HP.out.mono ?_
      rintro e w6 ⟨rfl, g6⟩
      have r6 := Row.new w6 #[.int .i64 x0, .int .i64 x2] 99
      have R7 := Lib.hid ((HR.out.under g6).under ((Below.refl _ _).alloc (Nat.le_refl _) (.cells #[.int .i64 x0, .int .i64 x2] 99)))
      have R8 := Lib.hid (R7.out.under ((Below.refl _ _).alloc (Nat.le_refl _) (.cells #[.int .i64 x0, .int .i64 x2] 99)))
      obtain ⟨d0, d1⟩ := row2 r6
      clear HP g6 HR
      go_wp2_with (at_builtin; refine wpList_append_lies _ rfl (.tmp 23) (.tmp 25) 51 rfl w.heap.size 99 i0 _ 2 16 Tryz.underlying51 hi hz0 hz1 hz2 rfl (by decide) «u4» M.length (El.rdc M) rfl R8.out.own ⟨w6.heap.size + 1, 0, none⟩ 1 1 [.int .i64 x0, .int .i64 x2] rfl rfl (World.news_of_block (cs := #[.int .i64 x0, .int .i64 x2]) (t := 99) (fr := (0, 0)) (by have := heap_alloc_new (w6.alloc (.cells #[.int .i64 x0, .int .i64 x2] 99)) (.cells #[.int .i64 x0, .int .i64 x2] 99); simpa using this)) (by simp [Value.oneCell']) (by omega) (by unfold maxLen; omega) (by omega) R8.out.below.size (w6.heap.size + 2) (by simp) ?_; intro g' cap' w8 hown8 hgrow8 hat8 hlt8; have R9 := Lib.hid (R8.out.more (x := (x0, x2)) hown8 hgrow8); clear hown8 hgrow8 hat8 hlt8)
      go_roundw
      case rel => exact ⟨k + 1, by omega, by go_num, by rw [hn.out]; exact R9.out⟩
      case measure => simp [intOf]; omega
    · have hke : k = L.length := by omega
      have k1 : ¬ ((k : Int) < (L.length : Int)) := by omega
      subst hke
      rw [List.take_length] at HR
      go_wp2_with fail
      go_ret2
      exact ⟨_, rfl, HR.out⟩
end Go.Proofs.YtfnlgfacadmjpaaGreatDoor
namespace Go.Proofs.YtfnlgfacadmjpaaGreatDoor
open Go.RowKit

theorem WIn.one {w : World} {v : Value} {x : List UInt8} {ws : List (List UInt8)} (h : WIn w v (x :: ws)) :
    ∃ g off cap, v = .slice (some ⟨g, off, none⟩) (ws.length + 1) cap ∧ ws.length + 1 ≤ cap ∧ cap ≤ 9223372036854775807 ∧ g < w.heap.size ∧ w.cell? ⟨g, off, none⟩ = some (.string (S x)) ∧ ∀ i (h : i < ws.length), w.cell? ⟨g, off + (i + 1), none⟩ = some (.string (S ws[i])) := by
  obtain ⟨A, cap, rfl, h1, h2, h3⟩ := h
  obtain ⟨g, off, rfl, hg, c0⟩ := h3 0 (by simp)
  refine ⟨g, off, cap, rfl, h1, h2, hg, c0, fun i hi => ?_⟩
  obtain ⟨g', off', e, -, c1⟩ := h3 (i + 1) (by simp; omega)
  obtain ⟨rfl, rfl⟩ : g = g' ∧ off = off' := by injection e with e; injection e with e1 e2; exact ⟨e1, e2⟩
  exact c1
theorem fld_S (l : List UInt8) (a b : Nat) : Pl.fld (S l) a b = Pl.numv ((l.drop a).take (b - a)) := by unfold Pl.fld; rw [extract_S, S_list]
theorem pb10 {x : Int} (h1 : 0 ≤ x) (h2 : x ≤ 9) : ((Pl.b10 x).toNat : Int) = 48 + x := b10_toNat h1 h2
theorem pdigs2 {n : Int} (h1 : 0 ≤ n) (h2 : n ≤ 99) : Pl.digs (Pl.dig2 n) = true ∧ Pl.numv (Pl.dig2 n) = n := ⟨digs_dig2 h1 h2, numv_dig2 h1 h2⟩
theorem pdigs3 {n : Int} (h1 : 0 ≤ n) (h2 : n ≤ 999) : Pl.digs (Pl.dig3 n) = true ∧ Pl.numv (Pl.dig3 n) = n := by
  have a := pb10 (x := n / 100) (by omega) (by omega)
  have b := pb10 (x := n / 10 % 10) (by omega) (by omega)
  have c := pb10 (x := n % 10) (by omega) (by omega)
  constructor
  · unfold Pl.dig3
    rw [Pl.digs_cons, Pl.digs_cons, Pl.digs_cons]
    exact ⟨⟨by omega, by omega⟩, ⟨by omega, by omega⟩, ⟨by omega, by omega⟩, rfl⟩
  · simp only [Pl.numv, Pl.dig3, List.foldl]; omega
/-- The program's Parse of a place's text. -/
theorem plParse_yes (f : Nat) (A B C : Int) (w : World) (h : Pl.Ico.Vld f A B C) :
    Calls Tryz.prog 189 #[.string (S (Pl.txt f A B))] w fun e w' => e = .returned (.tuple #[.agg #[.int .i64 f, .int .i64 A, .int .i64 B, .int .i64 C], .int .i64 0]) ∧ Below w.heap.size w w' := by
  obtain ⟨h1, h2, h3, h4, h5, h6, h7, h8⟩ := h
  have a := pdigs2 (n := (f : Int)) (by omega) (by omega)
  have b := pdigs3 (n := A) (by omega) (by omega)
  have c := pdigs3 (n := B) (by omega) (by omega)
  have hd : Pl.digs (S (Pl.txt f A B)).data.toList = true := by
    rw [S_list]; unfold Pl.txt; rw [digs_app, digs_app, a.1, b.1, c.1]; rfl
  have f1 : Pl.fld (S (Pl.txt f A B)) 0 2 = f := by rw [fld_S]; exact a.2
  have f2 : Pl.fld (S (Pl.txt f A B)) 2 5 = A := by rw [fld_S]; exact b.2
  have f3 : Pl.fld (S (Pl.txt f A B)) 5 8 = B := by rw [fld_S]; exact c.2
  have hp := Pl.parse_val (S (Pl.txt f A B)) w (by rw [S_size]; rfl) hd (by rw [f1, f2, f3]; exact Pl.vb_of ⟨h1, h2, h3, h4, h5, by omega, by omega, by omega⟩)
  rw [f1, f2, f3, show 840 - A - B = C by omega] at hp
  exact hp
set_option maxHeartbeats 400000 in
theorem readPl_land (v : Value) (w : World) :
    Calls Tryz.prog 169 #[.int .i64 1, v] w fun e w' => e = .returned (.tuple #[.agg #[.int .i64 0, .int .i64 0, .int .i64 0, .int .i64 0], v, .int .i64 0]) ∧ Below w.heap.size w w' := by
  have r4 := Row.new w #[.int .i64 0, .int .i64 0, .int .i64 0, .int .i64 0] 50
  have b4 := (Below.refl w.heap.size w).alloc (Nat.le_refl _) (.cells #[.int .i64 0, .int .i64 0, .int .i64 0, .int .i64 0] 50)
  go_enter Tryz.func169, Tryz.ntmps169
  go_upto_region 1 with fail
  generalize w.alloc (.cells #[.int .i64 0, .int .i64 0, .int .i64 0, .int .i64 0] 50) = W0 at *
  have f0 := r4.thaw 0
  have f1 := r4.thaw 1
  have f2 := r4.thaw 2
  have f3 := r4.thaw 3
  obtain ⟨q0, q1, q2, q3⟩ := row4 r4
  have HZ := Lib.hid (set4_row (.int .i64 0) (.int .i64 0) (.int .i64 0) (.int .i64 0) r4)
  have HB := Lib.hid b4
  clear r4 b4
  go_wp2_with fail
  clear f0 f1 f2 f3 q0 q1 q2 q3
  exact bodyPost_ret (v := .tuple #[.agg #[.int .i64 0, .int .i64 0, .int .i64 0, .int .i64 0], v, .int .i64 0]) (by obtain ⟨z0, z1, z2, z3⟩ := row4 HZ.out; simp [results, Tryz.results169, z0, z1, z2, z3, go_sem]) rfl ⟨rfl, set4_below HB.out (Nat.le_refl _)⟩
set_option maxRecDepth 100000 in
set_option maxHeartbeats 1000000 in
theorem readPl_sea (k : Int) (hk : k ≠ 1) (v : Value) (f : Nat) (A B C : Int) (ws : List (List UInt8)) (w : World) (hW : WIn w v (Pl.txt f A B :: ws)) (hP : Pl.Ico.Vld f A B C) :
    Calls Tryz.prog 169 #[.int .i64 k, v] w fun e w' => ∃ v', e = .returned (.tuple #[.agg #[.int .i64 f, .int .i64 A, .int .i64 B, .int .i64 C], v', .int .i64 0]) ∧ WIn w' v' ws ∧ Below w.heap.size w w' := by
  obtain ⟨g, off, cap, rfl, h1, h2, hg, c0, hrest⟩ := hW.one
  have q : (k == 1) = false := beq_eq_false_iff_ne.2 hk
  have HP := Lib.hid (fun w => plParse_yes f A B C w hP)
  have HR := Lib.hid hrest
  have n0 : ¬ ((ws.length : Int) + 1 = 0) := by omega
  have n1 : (1 : Int) ≤ (ws.length : Int) + 1 := by omega
  have n2 : (ws.length : Int) + 1 ≤ (cap : Int) := by omega
  have n3 : (1 : Int) ≤ (cap : Int) := by omega
  have n4 : ((ws.length : Int) + 1 - 1).toNat = ws.length := by omega
  generalize S (Pl.txt f A B) = tx at *
  clear hW hP hrest hk
  have r4 := Row.new w #[.int .i64 0, .int .i64 0, .int .i64 0, .int .i64 0] 50
  have b4 := (Below.refl w.heap.size w).alloc (Nat.le_refl _) (.cells #[.int .i64 0, .int .i64 0, .int .i64 0, .int .i64 0] 50)
  go_enter Tryz.func169, Tryz.ntmps169
  go_wp2_with fail
  generalize w.alloc (.cells #[.int .i64 0, .int .i64 0, .int .i64 0, .int .i64 0] 50) = W0 at *
  refine (HP.out _).mono ?_
  rintro e w2 ⟨rfl, g2⟩
  have r5 := (r4.under g2).alloc (.cells #[.int .i64 f, .int .i64 A, .int .i64 B, .int .i64 C] 50)
  have b5 := (b4.trans (g2.mono b4.size)).alloc (Nat.le_trans b4.size g2.size) (.cells #[.int .i64 f, .int .i64 A, .int .i64 B, .int .i64 C] 50)
  have rn := Row.new w2 #[.int .i64 f, .int .i64 A, .int .i64 B, .int .i64 C] 50
  have hne : w.heap.size ≠ w2.heap.size := Nat.ne_of_lt (Nat.lt_of_lt_of_le r4.lt g2.size)
  go_upto_region 6 with fail
  generalize w2.alloc (.cells #[.int .i64 f, .int .i64 A, .int .i64 B, .int .i64 C] 50) = W5 at *
  generalize w2.heap.size = g7 at *
  clear r4 b4 c0 g2
  have f0 := r5.thaw 0
  have f1 := r5.thaw 1
  have f2 := r5.thaw 2
  have f3 := r5.thaw 3
  obtain ⟨q0, q1, q2, q3⟩ := row4 r5
  obtain ⟨p0, p1, p2, p3⟩ := row4 rn
  have HZ := Lib.hid ((set4_row (.int .i64 f) (.int .i64 A) (.int .i64 B) (.int .i64 C) r5).drew)
  have HB := Lib.hid b5
  have RN := Lib.hid rn
  clear r5 rn b5
  refine wp_region_held_drew (S := fun w' : World => w'.cell? ⟨g7, 0, none⟩ = some (.int .i64 f) ∧ w'.cell? ⟨g7, 1, none⟩ = some (.int .i64 A) ∧ w'.cell? ⟨g7, 2, none⟩ = some (.int .i64 B) ∧ w'.cell? ⟨g7, 3, none⟩ = some (.int .i64 C)) (by kernel_rfl) ⟨p0, p1, p2, p3⟩ (fun hHeld => ?_)
  refine wpAnyH_take (i := 0) (v := ?_) rfl (by kernel_rfl) (by kernel_rfl) (by kernel_rfl) (fun _ _ _ h => h) (Or.inl ⟨by rfl, ?_⟩) (by assumption) ?_
  case refine_2 => (intro wx hSx; (try dsimp only at hSx); go_simp; first | done | with_reducible rfl)
  try simp only [Act.put]
  refine wpAnyH_take (i := 1) (v := ?_) rfl (by kernel_rfl) (by kernel_rfl) (by kernel_rfl) (fun _ _ _ h => h) (Or.inl ⟨by rfl, ?_⟩) (by assumption) ?_
  case refine_2 => (intro wx hSx; (try dsimp only at hSx); go_simp; first | done | with_reducible rfl)
  try simp only [Act.put]
  refine wpAnyH_take (i := 2) (v := ?_) rfl (by kernel_rfl) (by kernel_rfl) (by kernel_rfl) (fun _ _ _ h => h) (Or.inl ⟨by rfl, ?_⟩) (by assumption) ?_
  case refine_2 => (intro wx hSx; (try dsimp only at hSx); go_simp; first | done | with_reducible rfl)
  try simp only [Act.put]
  refine wpAnyH_take (i := 3) (v := ?_) rfl (by kernel_rfl) (by kernel_rfl) (by kernel_rfl) (fun _ _ _ h => h) (Or.inl ⟨by rfl, ?_⟩) (by assumption) ?_
  case refine_2 => (intro wx hSx; (try dsimp only at hSx); go_simp; first | done | with_reducible rfl)
  try simp only [Act.put]
  refine wpAnyH_ready (rs := [4]) (by kernel_rfl) (by simp) ?_
  refine AllReadyH.cons (o := ⟨none, _, _, _, _, none⟩) rfl (fun K hK => ?_) AllReadyH.nil
  go_simp
  refine hK.out _ _ (row4 (set4_far _ _ _ _ RN.out.drew hne)) (fun hHeld2 => ?_)
  clear hK K hHeld
  try simp only [Act.put]
  refine wpAnyH_take (i := 5) (oi := ⟨some 5, _, _, _, _, none⟩) (v := ?_) rfl (by kernel_rfl) (by kernel_rfl) (by kernel_rfl) (fun _ _ _ h => h) (Or.inl ⟨by rfl, ?_⟩) (by assumption) ?_
  case refine_2 => (intro wx hSx; (try dsimp only at hSx); go_simp; first | done | with_reducible rfl)
  try simp only [Act.put]
  refine wpAnyH_take (i := 6) (oi := ⟨some 6, _, _, _, _, none⟩) (v := ?_) rfl (by kernel_rfl) (by kernel_rfl) (by kernel_rfl) (fun _ _ _ h => h) (Or.inl ⟨by rfl, ?_⟩) (by assumption) ?_
  case refine_2 => (intro wx hSx; (try dsimp only at hSx); go_simp; first | done | with_reducible rfl)
  try simp only [Act.put]
  refine wpAnyH_done (by kernel_rfl) ?_ _
  clear f0 f1 f2 f3 q0 q1 q2 q3 p0 p1 p2 p3
  go_wp2_with fail
  · have HF := Lib.hid (set4_below (u0 := .int .i64 f) (u1 := .int .i64 A) (u2 := .int .i64 B) (u3 := .int .i64 C) HB.out (Nat.le_refl _)).drew
    have l0 : ws.length = 0 := by omega
    exact bodyPost_ret (v := .tuple #[.agg #[.int .i64 f, .int .i64 A, .int .i64 B, .int .i64 C], .slice (some ⟨g, off, none⟩) ws.length 0, .int .i64 0]) (by obtain ⟨z0, z1, z2, z3⟩ := row4 HZ.out; simp [results, Tryz.results169, z0, z1, z2, z3, go_sem]) rfl
      ⟨_, rfl, ⟨_, 0, rfl, by omega, by omega, fun i hi => absurd hi (by omega)⟩, HF.out⟩
  · have HF := Lib.hid (set4_below (u0 := .int .i64 f) (u1 := .int .i64 A) (u2 := .int .i64 B) (u3 := .int .i64 C) HB.out (Nat.le_refl _)).drew
    exact bodyPost_ret (v := .tuple #[.agg #[.int .i64 f, .int .i64 A, .int .i64 B, .int .i64 C], .slice (some ⟨g, off + 1, none⟩) ws.length (cap - 1), .int .i64 0]) (by obtain ⟨z0, z1, z2, z3⟩ := row4 HZ.out; simp [results, Tryz.results169, z0, z1, z2, z3, go_sem]) rfl
      ⟨_, rfl, ⟨_, cap - 1, rfl, by omega, by omega, fun i hi => ⟨g, off + 1, rfl, Nat.lt_of_lt_of_le hg HF.out.size, by
        rw [show off + 1 + i = off + (i + 1) by omega]
        exact (HF.out.cell (p := ⟨g, off + (i + 1), none⟩) hg).trans (HR.out i hi)⟩⟩, HF.out⟩
end Go.Proofs.YtfnlgfacadmjpaaGreatDoor
