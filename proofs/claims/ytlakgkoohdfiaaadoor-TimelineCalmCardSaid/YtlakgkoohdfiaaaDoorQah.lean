/- Texts of this proof. -/
import Derived.Test.YtlakgkoohdfiaaaDoorQaa
import Derived.Test.YtlakgkoohdfiaaaDoorQag
namespace Go.Proofs.YtlakgkoohdfiaaaDoor.El
open Go.RowKit

/-- The table of the elements as it lies in memory. -/
def Tab (w : World) : Prop := ∀ k : Nat, k < 11 → w.cell? ⟨0, k * 3, none⟩ = some (.int .i64 (Elt.leas.getD k 0)) ∧ w.cell? ⟨0, k * 3 + 1, none⟩ = some (.int .i64 (Elt.mosts.getD k 0)) ∧ w.cell? ⟨0, k * 3 + 2, none⟩ = some (.int .i64 (Elt.digss.getD k 0 : Nat))
theorem Tab.pos {w : World} (h : Tab w) : 0 < w.heap.size := by
  have h0 := (h 0 (by omega)).1
  exact World.block_lt_of_cell? w _ h0
theorem Tab.under {w w' : World} (h : Tab w) (hb : Below w.heap.size w w') : Tab w' := fun k hk => by
  obtain ⟨a, b, c⟩ := h k hk
  exact ⟨(hb.cell (p := ⟨0, k * 3, none⟩) h.pos).trans a, (hb.cell (p := ⟨0, k * 3 + 1, none⟩) h.pos).trans b, (hb.cell (p := ⟨0, k * 3 + 2, none⟩) h.pos).trans c⟩
theorem eleven {c : Int} (h : Elt.Ex c) : c = 1 ∨ c = 2 ∨ c = 3 ∨ c = 4 ∨ c = 5 ∨ c = 6 ∨ c = 7 ∨ c = 8 ∨ c = 9 ∨ c = 10 ∨ c = 11 := by unfold Elt.Ex at h; omega
/-- The row of an element as a value. -/
abbrev infoV (c : Int) : Value := .agg #[.string (S [Elt.lt c]), .int .i64 (Elt.lo c), .int .i64 (Elt.hi c), .int .i64 (Elt.dg c)]
set_option maxHeartbeats 1000000 in
theorem describe_no (c : Int) (w : World) (h : ¬ Elt.Ex c) :
    Calls Tryd.prog 91 #[.int .i64 c] w fun e w' => e = .returned (.tuple #[.agg #[.string ⟨#[]⟩, .int .i64 0, .int .i64 0, .int .i64 0], .int .i64 4]) ∧ Below w.heap.size w w' := by
  by_cases h1 : c < 1
  · clear h
    go_enter Tryd.func91, Tryd.ntmps91
    go_wp2
    exact bodyPost_ret (v := .tuple #[.agg #[.string ⟨#[]⟩, .int .i64 0, .int .i64 0, .int .i64 0], .int .i64 4]) (by simp [results, Tryd.results91, go_sem]) rfl ⟨rfl, (Below.refl _ _).alloc (Nat.le_refl _) _⟩
  · have h2 : 11 < c := by unfold Elt.Ex at h; omega
    clear h
    go_enter Tryd.func91, Tryd.ntmps91
    go_wp2
    exact bodyPost_ret (v := .tuple #[.agg #[.string ⟨#[]⟩, .int .i64 0, .int .i64 0, .int .i64 0], .int .i64 4]) (by simp [results, Tryd.results91, go_sem]) rfl ⟨rfl, (Below.refl _ _).alloc (Nat.le_refl _) _⟩
theorem conv_let : ∀ k : Fin 11, ∀ w, (convert 5 9 (.int .u8 ((Elt.lets.getD k 0).toNat : Nat))).run Tryd.prog w = .ok (.string (S [Elt.lets.getD k 0])) w := by
  intro ⟨k, hk⟩ w
  rcases (by omega : k = 0 ∨ k = 1 ∨ k = 2 ∨ k = 3 ∨ k = 4 ∨ k = 5 ∨ k = 6 ∨ k = 7 ∨ k = 8 ∨ k = 9 ∨ k = 10) with rfl | rfl | rfl | rfl | rfl | rfl | rfl | rfl | rfl | rfl | rfl <;> kernel_rfl
theorem index_let : ∀ k : Fin 11, ∀ h : k.val < ByteArray.size ⟨#[80, 84, 68, 69, 78, 65, 66, 70, 71, 74, 75]⟩, (⟨#[80, 84, 68, 69, 78, 65, 66, 70, 71, 74, 75]⟩ : ByteArray)[k.val]'h = Elt.lets.getD k 0 := by
  intro ⟨k, hk⟩ h
  rcases (by omega : k = 0 ∨ k = 1 ∨ k = 2 ∨ k = 3 ∨ k = 4 ∨ k = 5 ∨ k = 6 ∨ k = 7 ∨ k = 8 ∨ k = 9 ∨ k = 10) with rfl | rfl | rfl | rfl | rfl | rfl | rfl | rfl | rfl | rfl | rfl <;> rfl
set_option maxHeartbeats 4000000 in
theorem describe_yes (c : Int) (w : World) (h : Elt.Ex c) (hT : Tab w) :
    Calls Tryd.prog 91 #[.int .i64 c] w fun e w' => e = .returned (.tuple #[infoV c, .int .i64 0]) ∧ Below w.heap.size w w' := by
  have hp := hT.pos
  obtain ⟨k, rfl, hk⟩ : ∃ k : Nat, c = (k : Int) + 1 ∧ k < 11 := ⟨(c - 1).toNat, by unfold Elt.Ex at h; omega, by unfold Elt.Ex at h; omega⟩
  obtain ⟨t0, t1, t2⟩ := hT k hk
  have ek : ((k : Int) + 1 - 1).toNat = k := by omega
  have x1 : IntKind.i64.wrap (k : Int) = (k : Int) := IntWalk.i64_in _ (by omega)
  have e1 := conv_let ⟨k, hk⟩
  have e2 := index_let ⟨k, hk⟩
  have E0 : Hid (Elt.lt ((k : Int) + 1) = Elt.lets.getD k 0 ∧ Elt.lo ((k : Int) + 1) = Elt.leas.getD k 0 ∧ Elt.hi ((k : Int) + 1) = Elt.mosts.getD k 0 ∧ Elt.dg ((k : Int) + 1) = Elt.digss.getD k 0) := Lib.hid (by unfold Elt.lt Elt.lo Elt.hi Elt.dg; rw [ek]; exact ⟨rfl, rfl, rfl, rfl⟩)
  simp only at e1 e2
  generalize Elt.lets.getD k 0 = lb at *
  generalize Elt.leas.getD k 0 = a at *
  generalize Elt.mosts.getD k 0 = m at *
  generalize Elt.digss.getD k 0 = d at *
  have k0 : (0 : Int) ≤ (k : Int) := by omega
  have k1 : (k : Int) < 11 := by omega
  clear hT h ek
  go_enter Tryd.func91, Tryd.ntmps91
  go_upto_region 4 with fail
  refine forget (fun Y => Below w.heap.size w Y ∧ Row Y w.heap.size 102 #[.string ⟨#[]⟩, .int .i64 0, .int .i64 0, .int .i64 0] ∧ Row Y (w.heap.size + 1) 170 #[.int .i64 a, .int .i64 m, .int .i64 d]) ⟨((Below.refl _ _).alloc (Nat.le_refl _) _).alloc (by simp) _, (Row.new _ _ _).alloc _, Row.newAt (by simp)⟩ ?_
  clear t0 t1 t2 hp
  rintro Y ⟨bY, r4, r3⟩
  obtain ⟨p0, p1, p2⟩ := row3 r3
  have f0 := r4.thaw 0
  have f1 := r4.thaw 1
  have f2 := r4.thaw 2
  have f3 := r4.thaw 3
  obtain ⟨q0, q1, q2, q3⟩ := row4 r4
  have R4 := Lib.hid r4
  have R3 := Lib.hid r3
  have BY := Lib.hid bY
  clear r3 r4 bY
  refine wp_region_held_drew (S := fun w' : World => w'.cell? ⟨w.heap.size + 1, 0, none⟩ = some (.int .i64 a) ∧ w'.cell? ⟨w.heap.size + 1, 1, none⟩ = some (.int .i64 m) ∧ w'.cell? ⟨w.heap.size + 1, 2, none⟩ = some (.int .i64 d)) (by kernel_rfl) ⟨p0, p1, p2⟩ (fun hHeld => ?_)
  refine wpAnyH_take (i := 0) (v := ?_) rfl (by kernel_rfl) (by kernel_rfl) (by kernel_rfl) (fun _ _ _ h => h) (Or.inl ⟨by rfl, ?_⟩) (by assumption) ?_
  case refine_2 => (intro wx hSx; (try dsimp only at hSx); go_simp; first | done | with_reducible rfl)
  try simp only [Act.put, List.setIfInBounds_toArray]
  refine wpAnyH_take (i := 1) (v := ?_) rfl (by kernel_rfl) (by kernel_rfl) (by kernel_rfl) (fun _ _ _ h => h) (Or.inl ⟨by rfl, ?_⟩) (by assumption) ?_
  case refine_2 => (intro wx hSx; (try dsimp only at hSx); go_simp; first | done | with_reducible rfl)
  try simp only [Act.put]
  refine wpAnyH_take (i := 2) (v := ?_) rfl (by kernel_rfl) (by kernel_rfl) (by kernel_rfl) (fun _ _ _ h => h) (Or.inl ⟨by rfl, ?_⟩) (by assumption) ?_
  case refine_2 => (intro wx hSx; (try dsimp only at hSx); go_simp; first | done | with_reducible rfl)
  try simp only [Act.put]
  refine wpAnyH_take (i := 3) (v := ?_) rfl (by kernel_rfl) (by kernel_rfl) (by kernel_rfl) (fun _ _ _ h => h) (Or.inl ⟨by rfl, ?_⟩) (by assumption) ?_
  case refine_2 => (intro wx hSx; (try dsimp only at hSx); go_simp; first | done | with_reducible rfl)
  try simp only [Act.put]
  refine wpAnyH_take (i := 4) (v := ?_) rfl (by kernel_rfl) (by kernel_rfl) (by kernel_rfl) (fun _ _ _ h => h) (Or.inl ⟨by rfl, ?_⟩) (by assumption) ?_
  case refine_2 => (intro wx hSx; (try dsimp only at hSx); go_simp; first | done | with_reducible rfl)
  try simp only [Act.put]
  refine wpAnyH_take (i := 5) (v := ?_) rfl (by kernel_rfl) (by kernel_rfl) (by kernel_rfl) (fun _ _ _ h => h) (Or.inl ⟨by rfl, ?_⟩) (by assumption) ?_
  case refine_2 => (intro wx hSx; (try dsimp only at hSx); go_simp; first | done | with_reducible rfl)
  try simp only [Act.put]
  refine wpAnyH_take (i := 6) (v := ?_) rfl (by kernel_rfl) (by kernel_rfl) (by kernel_rfl) (fun _ _ _ h => h) (Or.inl ⟨by rfl, ?_⟩) (by assumption) ?_
  case refine_2 => (intro wx hSx; (try dsimp only at hSx); go_simp; first | done | with_reducible rfl)
  try simp only [Act.put]
  refine wpAnyH_take (i := 7) (v := ?_) rfl (by kernel_rfl) (by kernel_rfl) (by kernel_rfl) (fun _ _ _ h => h) (Or.inl ⟨by rfl, ?_⟩) (by assumption) ?_
  case refine_2 => (intro wx hSx; (try dsimp only at hSx); go_simp; first | done | with_reducible rfl)
  try simp only [Act.put]
  refine wpAnyH_take (i := 8) (v := ?_) rfl (by kernel_rfl) (by kernel_rfl) (by kernel_rfl) (fun _ _ _ h => h) (Or.inl ⟨by rfl, ?_⟩) (by assumption) ?_
  case refine_2 => (intro wx hSx; (try dsimp only at hSx); go_simp; first | done | with_reducible rfl)
  try simp only [Act.put]
  refine wpAnyH_take (i := 9) (v := ?_) rfl (by kernel_rfl) (by kernel_rfl) (by kernel_rfl) (fun _ _ _ h => h) (Or.inl ⟨by rfl, ?_⟩) (by assumption) ?_
  case refine_2 => (intro wx hSx; (try dsimp only at hSx); go_simp; first | done | with_reducible rfl)
  try simp only [Act.put]
  refine wpAnyH_take (i := 10) (v := ?_) rfl (by kernel_rfl) (by kernel_rfl) (by kernel_rfl) (fun _ _ _ h => h) (Or.inl ⟨by rfl, ?_⟩) (by assumption) ?_
  case refine_2 => (intro wx hSx; (try dsimp only at hSx); go_simp; first | done | with_reducible rfl)
  try simp only [Act.put]
  refine wpAnyH_ready (rs := [11]) (by kernel_rfl) (by simp) ?_
  refine AllReadyH.cons rfl (fun K hK => ?_) AllReadyH.nil
  go_simp
  refine hK.out _ _ (row3 (set4_far _ _ _ _ R3.out.drew (by omega))) (fun hHeld2 => ?_)
  clear hK K hHeld
  try simp only [Act.put, List.setIfInBounds_toArray, List.set_cons_zero, List.set_cons_succ]
  refine wpAnyH_take (i := 12) (oi := ⟨some 3, _, _, _, _, none⟩) (v := ?_) rfl (by kernel_rfl) (by kernel_rfl) (by kernel_rfl) (fun _ _ _ h => h) (Or.inl ⟨by rfl, ?_⟩) (by assumption) ?_
  case refine_2 => (intro wx hSx; (try dsimp only at hSx); go_simp; first | done | with_reducible rfl)
  try simp only [Act.put, List.setIfInBounds_toArray, List.set_cons_zero, List.set_cons_succ]
  refine wpAnyH_done (by kernel_rfl) ?_ _
  have HZ := Lib.hid (set4_row (.string (S [lb])) (.int .i64 a) (.int .i64 m) (.int .i64 d) R4.out).drew
  clear f0 f1 f2 f3 q0 q1 q2 q3 p0 p1 p2
  go_wp2_with fail
  exact bodyPost_ret (v := .tuple #[.agg #[.string (S [lb]), .int .i64 a, .int .i64 m, .int .i64 d], .int .i64 0]) (by obtain ⟨z0, z1, z2, z3⟩ := row4 HZ.out; simp [results, Tryd.results91, z0, z1, z2, z3, go_sem]) rfl ⟨by unfold infoV; rw [E0.out.1, E0.out.2.1, E0.out.2.2.1, E0.out.2.2.2], (set4_below BY.out (Nat.le_refl _)).drew⟩
end Go.Proofs.YtlakgkoohdfiaaaDoor.El


namespace Go.Proofs.YtlakgkoohdfiaaaDoor.El
open Go.RowKit

/-- A reading as a value. -/
abbrev rdV (c v : Int) : Value := .agg #[.int .i64 c, .int .i64 v]
set_option maxHeartbeats 1000000 in
theorem check_any (c v : Int) (w : World) (hT : Tab w) :
    Calls Tryd.prog 99 #[rdV c v] w fun e w' => e = .returned (.int .i64 (Elt.chk c v)) ∧ Below w.heap.size w w' := by
  have b0 : Below w.heap.size w (w.alloc (.cells #[.int .i64 c, .int .i64 v] 81)) := (Below.refl _ _).alloc (Nat.le_refl _) _
  have r0 := Row.new w #[.int .i64 c, .int .i64 v] 81
  have hT0 := hT.under b0
  rcases Elt.chk_cases c v with ⟨⟨h, h1, h2⟩, hk⟩ | ⟨h, h1, hk⟩ | ⟨h, hk⟩
  · have HK := Lib.hid hk; clear hk
    go_enter Tryd.func99, Tryd.ntmps99
    go_wp2_with fail
    refine (describe_yes c _ h hT0).mono ?_
    rintro e w1 ⟨rfl, g1⟩
    go_upto_region 4 with fail
    have HL := Lib.hid h
    refine forget (fun Y => Below w.heap.size w Y ∧ Row Y w.heap.size 81 #[.int .i64 c, .int .i64 v] ∧ Row Y w1.heap.size 102 #[.string (S [Elt.lt c]), .int .i64 (Elt.lo c), .int .i64 (Elt.hi c), .int .i64 (Elt.dg c)]) ⟨(b0.trans (g1.mono (by simp))).alloc (Nat.le_trans b0.size g1.size) _, (r0.under g1).alloc _, Row.new _ _ _⟩ ?_
    clear g1 b0 r0 hT0
    rintro Y ⟨bY, r2, r4⟩
    obtain ⟨p0, p1⟩ := row2 r2
    obtain ⟨q0, q1, q2, q3⟩ := row4 r4
    have BY := Lib.hid bY; clear bY r2 r4
    go_wp2_with fail
    go_ret
    exact ⟨ret_i64 HK.out.symm, BY.out⟩
  · have HK := Lib.hid hk; clear hk
    go_enter Tryd.func99, Tryd.ntmps99
    go_wp2_with fail
    refine (describe_yes c _ h hT0).mono ?_
    rintro e w1 ⟨rfl, g1⟩
    go_upto_region 4 with fail
    refine forget (fun Y => Below w.heap.size w Y ∧ Row Y w.heap.size 81 #[.int .i64 c, .int .i64 v] ∧ Row Y w1.heap.size 102 #[.string (S [Elt.lt c]), .int .i64 (Elt.lo c), .int .i64 (Elt.hi c), .int .i64 (Elt.dg c)]) ⟨(b0.trans (g1.mono (by simp))).alloc (Nat.le_trans b0.size g1.size) _, (r0.under g1).alloc _, Row.new _ _ _⟩ ?_
    clear g1 b0 r0 hT0
    rintro Y ⟨bY, r2, r4⟩
    obtain ⟨p0, p1⟩ := row2 r2
    obtain ⟨q0, q1, q2, q3⟩ := row4 r4
    have BY := Lib.hid bY; clear bY r2 r4
    by_cases h2 : v < Elt.lo c
    · clear h1
      go_wp2_with fail
      go_ret
      exact ⟨ret_i64 HK.out.symm, BY.out⟩
    · have h3 : Elt.hi c < v := by omega
      clear h1
      go_wp2_with fail
      go_ret
      exact ⟨ret_i64 HK.out.symm, BY.out⟩
  · have HK := Lib.hid hk; clear hk
    go_enter Tryd.func99, Tryd.ntmps99
    go_wp2_with fail
    refine (describe_no c _ h).mono ?_
    rintro e w1 ⟨rfl, g1⟩
    go_wp2_with fail
    go_ret
    exact ⟨ret_i64 HK.out.symm, (b0.trans (g1.mono (by simp))).alloc (Nat.le_trans b0.size g1.size) _⟩
end Go.Proofs.YtlakgkoohdfiaaaDoor.El

