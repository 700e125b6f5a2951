/- The contract of the reference's find. -/
import Derived.Test.YtejoabaanclcbaaGreatQak
namespace Go.Proofs.YtejoabaanclcbaaGreat
open Go.RowKit

/-- The node k is this place. -/
def sameN (n k f : Nat) (A B : Int) : Prop := (Lat.nd n k).1 = f ∧ wd n (Lat.nd n k).2.1 = A ∧ wd n (Lat.nd n k).2.2 = B
/-- The node k stands before this place. -/
def lessN (n k f : Nat) (A B : Int) : Bool := lessB (Lat.nd n k).1 (wd n (Lat.nd n k).2.1) (wd n (Lat.nd n k).2.2) f A B
theorem wd_lt {n a b : Nat} (hn : Lat.frq n) : (a < b ↔ wd n a < wd n b) ∧ (a = b ↔ wd n a = wd n b) := by
  rcases Lat.eight hn with rfl | rfl | rfl | rfl | rfl | rfl | rfl | rfl <;> (simp only [wd]; simp; omega)
theorem lessB_iff {F A B G X Y : Int} : lessB F A B G X Y = true ↔ F < G ∨ (F = G ∧ (A < X ∨ (A = X ∧ B < Y))) := by
  unfold lessB
  by_cases h1 : F = G
  · rw [if_pos h1]
    by_cases h2 : A = X
    · rw [if_pos h2, decide_eq_true_eq]; omega
    · rw [if_neg h2, decide_eq_true_eq]; omega
  · rw [if_neg h1, decide_eq_true_eq]; omega
/-- Nodes stand in this order. -/
theorem nd_less {n i j : Nat} (hn : Lat.frq n) (hij : i < j) (hj : j < cn n) : lessB (Lat.nd n i).1 (wd n (Lat.nd n i).2.1) (wd n (Lat.nd n i).2.2) (Lat.nd n j).1 (wd n (Lat.nd n j).2.1) (wd n (Lat.nd n j).2.2) = true := by
  have h := Lat.nd_lt hn hij hj
  unfold Lat.lt3 at h
  rw [lessB_iff]
  have a := wd_lt (a := (Lat.nd n i).2.1) (b := (Lat.nd n j).2.1) hn
  have b := wd_lt (a := (Lat.nd n i).2.2) (b := (Lat.nd n j).2.2) hn
  rw [← a.1, ← a.2, ← b.1]
  omega
theorem less_trans {n i j f : Nat} {A B : Int} (hn : Lat.frq n) (hij : i < j) (hj : j < cn n) (h : lessN n j f A B = true) : lessN n i f A B = true := by
  have h1 := nd_less hn hij hj
  unfold lessN at *
  rw [lessB_iff] at *
  omega
theorem less_self {n k f : Nat} {A B : Int} (h : sameN n k f A B) : lessN n k f A B = false := by
  obtain ⟨rfl, rfl, rfl⟩ := h
  unfold lessN
  rw [Bool.eq_false_iff, ne_eq, lessB_iff]
  omega
/-- What find leaves. -/
def FindR (W : World) (n f : Nat) (A B : Int) (e : Ending) (w : World) : Prop := Below W.heap.size W w ∧ ∃ r : Int, e = .returned (.int .i64 r) ∧ ((∃ k : Nat, k < cn n ∧ r = k ∧ sameN n k f A B) ∨ (r = -1 ∧ ∀ k, k < cn n → ¬ sameN n k f A B))
/-- The list of nodes, told by its cells. -/
def NdL (w : World) (n g : Nat) : Prop := g < w.heap.size ∧ ∀ k, k < cn n → w.cell? ⟨g, k * 4, none⟩ = some (.int .i64 (Lat.nd n k).1) ∧ w.cell? ⟨g, k * 4 + 1, none⟩ = some (.int .i64 (wd n (Lat.nd n k).2.1)) ∧ w.cell? ⟨g, k * 4 + 2, none⟩ = some (.int .i64 (wd n (Lat.nd n k).2.2)) ∧ w.cell? ⟨g, k * 4 + 3, none⟩ = some (.int .i64 (wd n (n - (Lat.nd n k).2.1 - (Lat.nd n k).2.2)))
theorem NdL.under {w w' : World} {n g : Nat} (h : NdL w n g) (hb : Below w.heap.size w w') : NdL w' n g :=
  ⟨Nat.lt_of_lt_of_le h.1 hb.size, fun k hk => by
    obtain ⟨a, b, c, d⟩ := h.2 k hk
    exact ⟨(hb.cell (p := ⟨g, k * 4, none⟩) h.1).trans a, (hb.cell (p := ⟨g, k * 4 + 1, none⟩) h.1).trans b, (hb.cell (p := ⟨g, k * 4 + 2, none⟩) h.1).trans c, (hb.cell (p := ⟨g, k * 4 + 3, none⟩) h.1).trans d⟩⟩
theorem NdL.of {w : World} {base n g cap : Nat} (hn : Lat.frq n) (h : w.ownsRow base 32 4 (.slice (some ⟨g, 0, none⟩) (cn n) cap) (cn n) (ncs n (Lat.nodes n))) : NdL w n g :=
  ⟨(h.lt g rfl).2, fun k hk => nd_cells hn h k hk⟩
theorem sum_c {f g : Nat} {A B C X Y Z : Int} (h : Ico.Vld f A B C) (k : Ico.Vld g X Y Z) : A = X → B = Y → C = Z := by
  intro h1 h2
  unfold Ico.Vld at h k
  omega
attribute [local go_sem] eq_place
set_option maxRecDepth 100000 in
set_option maxHeartbeats 1500000 in
theorem reffind_any (n f g cap : Nat) (A B C : Int) (w : World) (hn : Lat.frq n) (hv : Ico.Vld f A B C) (hL : NdL w n g) :
    Calls Tryz.prog 90 #[.slice (some ⟨g, 0, none⟩) (cn n) cap, .agg #[.int .i64 f, .int .i64 A, .int .i64 B, .int .i64 C]] w (FindR w n f A B) := by
  have hc := cn_le hn
  have hN := Lib.hid hn; clear hn
  have HV := Lib.hid hv; clear hv
  have hL0 := Lib.hid (hL.under ((Below.refl _ _).alloc (Nat.le_refl _) (.cells #[.int .i64 f, .int .i64 A, .int .i64 B, .int .i64 C] 32)))
  clear hL
  go_enter Tryz.func90, Tryz.ntmps90
  go_upto_region 1 with fail
  refine forget (fun Z => Below w.heap.size w Z ∧ NdL Z n g ∧ Row Z w.heap.size 32 #[.int .i64 f, .int .i64 A, .int .i64 B, .int .i64 C]) ⟨(Below.refl _ _).alloc (Nat.le_refl _) _, hL0.out, Row.new _ _ _⟩ ?_
  clear hL0
  obtain ⟨gp, hgp⟩ : ∃ x, w.heap.size = x := ⟨_, rfl⟩
  rw [hgp]
  have HGP := Lib.hid hgp; clear hgp
  rintro Z hZ
  have HZ := Lib.hid hZ; clear hZ
  go_wp2_with fail
  go_loopw [5, 6] (fun l h wr => ∃ lo hi : Nat, lo ≤ hi ∧ hi ≤ cn n ∧ l = .int .i64 lo ∧ h = .int .i64 hi ∧ (∀ i, i < lo → lessN n i f A B = true) ∧ (∀ i, hi ≤ i → i < cn n → lessN n i f A B = false) ∧ Below gp w wr ∧ NdL wr n g ∧ Row wr gp 32 #[.int .i64 f, .int .i64 A, .int .i64 B, .int .i64 C]) (fun l h _ => (intOf h).toNat - (intOf l).toNat)
  case atStart => exact ⟨0, cn n, by omega, by omega, rfl, rfl, fun i hi => by omega, fun i h1 h2 => by omega, HZ.out.1, HZ.out.2.1, HZ.out.2.2⟩
  case round =>
    clear HZ
    obtain ⟨lo, hi, h1, h2, rfl, rfl, hlo, hhi, hb, hL, hR⟩ := hrel
    have HLO := Lib.hid hlo; clear hlo
    have HHI := Lib.hid hhi; clear hhi
    by_cases hlt : lo < hi
    · obtain ⟨m, hm⟩ : ∃ m, (lo + hi) / 2 = m := ⟨_, rfl⟩
      have em : ((lo : Int) + (hi : Int)) / 2 = (m : Int) := by omega
      have m1 : lo ≤ m ∧ m < hi := by omega
      obtain ⟨m1, m2⟩ := m1
      have m3 : m < cn n := by omega
      clear hm
      obtain ⟨c0, c1, c2, c3⟩ := hL.2 m m3
      obtain ⟨p0, p1, p2, p3⟩ := row4 hR
      have k0 : (0 : Int) ≤ (m : Int) := by omega
      have k1 : (m : Int) < (cn n : Int) := by omega
      have HB := Lib.hid hb
      have HL := Lib.hid hL
      have HR := Lib.hid hR
      clear hb hL hR
      have HLE := Lib.hid (fun W => less_all ((Lat.nd n m).1 : Int) (wd n (Lat.nd n m).2.1) (wd n (Lat.nd n m).2.2) (wd n (n - (Lat.nd n m).2.1 - (Lat.nd n m).2.2)) f A B C W)
      have HLN : Hid (lessB ((Lat.nd n m).1 : Int) (wd n (Lat.nd n m).2.1) (wd n (Lat.nd n m).2.2) f A B = lessN n m f A B) := Lib.hid rfl
      generalize (Lat.nd n m).1 = f' at *
      generalize wd n (Lat.nd n m).2.1 = x' at *
      generalize wd n (Lat.nd n m).2.2 = y' at *
      generalize wd n (n - (Lat.nd n m).2.1 - (Lat.nd n m).2.2) = z' at *
      go_upto_region 4 with fail
      simp only [em]
      refine wp_region_held_drew (S := (fun w' : World => (w'.cell? ⟨g, m * 4, none⟩ = some (.int .i64 f') ∧ w'.cell? ⟨g, m * 4 + 1, none⟩ = some (.int .i64 x') ∧ w'.cell? ⟨g, m * 4 + 2, none⟩ = some (.int .i64 y') ∧ w'.cell? ⟨g, m * 4 + 3, none⟩ = some (.int .i64 z')) ∧ w'.cell? ⟨gp, 0, none⟩ = some (.int .i64 f) ∧ w'.cell? ⟨gp, 1, none⟩ = some (.int .i64 A) ∧ w'.cell? ⟨gp, 2, none⟩ = some (.int .i64 B) ∧ w'.cell? ⟨gp, 3, none⟩ = some (.int .i64 C))) (by kernel_rfl) ⟨⟨c0, c1, c2, c3⟩, p0, p1, p2, p3⟩ (fun hHeld => ?_)
      refine tk 0 rfl ?_
      try go_frame
      refine tk 1 rfl ?_
      try go_frame
      refine tk 2 rfl ?_
      try go_frame
      refine tk 3 rfl ?_
      try go_frame
      refine tk 4 rfl ?_
      try go_frame
      refine wpAnyH_ready (rs := [5]) (by kernel_rfl) (by simp) ?_
      refine AllReadyH.cons rfl (fun K hK => ?_) AllReadyH.nil
      go_simp
      refine (HLE.out _).mono ?_
      rintro e w5 ⟨rfl, hb5⟩
      have B5 := Lib.hid (undrew hb5); clear hb5
      have HL5 := Lib.hid (HL.out.under B5.out)
      have HR5 := Lib.hid (HR.out.under B5.out)
      have HB5 := Lib.hid (HB.out.trans (B5.out.mono (Nat.le_of_lt HR.out.lt)))
      rw [HLN.out]
      cases hr : lessN n m f A B
      · have HRB := Lib.hid hr; clear hr
        have HAB : Hid (∀ i, m ≤ i → i < cn n → lessN n i f A B = false) := Lib.hid (fun i h1 h2 => by
          rcases Nat.eq_or_lt_of_le h1 with e | h
          · rw [← e]; exact HRB.out
          · cases hi2 : lessN n i f A B
            · rfl
            · have := less_trans hN.out h h2 hi2
              rw [HRB.out] at this; cases this)
        go_wp2_with fail
        refine hK.out _ _ ⟨?_, row4 HR5.out⟩ (fun hHeld2 => ?_)
        · have hg := HL.out.1
          exact ⟨(B5.out.cell (p := ⟨g, m * 4, none⟩) hg).trans c0, (B5.out.cell (p := ⟨g, m * 4 + 1, none⟩) hg).trans c1, (B5.out.cell (p := ⟨g, m * 4 + 2, none⟩) hg).trans c2, (B5.out.cell (p := ⟨g, m * 4 + 3, none⟩) hg).trans c3⟩
        clear hK K hHeld hHeld2
        try go_frame
        refine wpAnyH_done (by kernel_rfl) ?_ _
        clear c0 c1 c2 c3 p0 p1 p2 p3
        go_wp2_with fail
        go_roundw
        case rel => exact ⟨lo, m, m1, by omega, rfl, rfl, HLO.out, HAB.out, HB5.out, HL5.out, HR5.out⟩
        case measure => simp [intOf]; omega
      · have HRB := Lib.hid hr; clear hr
        have HAB : Hid (∀ i, i < m + 1 → lessN n i f A B = true) := Lib.hid (fun i h1 => by
          rcases Nat.eq_or_lt_of_le (show i ≤ m by omega) with e | h
          · rw [e]; exact HRB.out
          · exact less_trans hN.out h m3 HRB.out)
        go_wp2_with fail
        refine hK.out _ _ ⟨?_, row4 HR5.out⟩ (fun hHeld2 => ?_)
        · have hg := HL.out.1
          exact ⟨(B5.out.cell (p := ⟨g, m * 4, none⟩) hg).trans c0, (B5.out.cell (p := ⟨g, m * 4 + 1, none⟩) hg).trans c1, (B5.out.cell (p := ⟨g, m * 4 + 2, none⟩) hg).trans c2, (B5.out.cell (p := ⟨g, m * 4 + 3, none⟩) hg).trans c3⟩
        clear hK K hHeld hHeld2
        try go_frame
        refine wpAnyH_done (by kernel_rfl) ?_ _
        clear c0 c1 c2 c3 p0 p1 p2 p3
        go_wp2_with fail
        go_roundw
        case rel => exact ⟨m + 1, hi, by omega, h2, by go_num, rfl, HAB.out, HHI.out, HB5.out, HL5.out, HR5.out⟩
        case measure => simp [intOf]; omega
    · have hle : lo = hi := by omega
      subst hle
      have HFACT : Hid (∀ k, k < cn n → sameN n k f A B → k = lo) := Lib.hid (fun k hk hs => by
        have h0 := less_self hs
        rcases Nat.lt_trichotomy k lo with h | h | h
        · rw [HLO.out k h] at h0; cases h0
        · exact h
        · exfalso
          have h3 := HHI.out lo (Nat.le_refl _) (by omega)
          have h4 := nd_less hN.out h hk
          obtain ⟨e1, e2, e3⟩ := hs
          rw [e1, e2, e3] at h4
          unfold lessN at h3
          rw [h3] at h4; cases h4)
      obtain ⟨p0, p1, p2, p3⟩ := row4 hR
      have HB := Lib.hid hb
      have hgp := Lib.hid HGP.out
      by_cases hll : lo < cn n
      · obtain ⟨c0, c1, c2, c3⟩ := hL.2 lo hll
        have k0 : (0 : Int) ≤ (lo : Int) := by omega
        have k1 : (lo : Int) < (cn n : Int) := by omega
        have HSN : Hid (sameN n lo f A B ↔ (Lat.nd n lo).1 = f ∧ wd n (Lat.nd n lo).2.1 = A ∧ wd n (Lat.nd n lo).2.2 = B) := Lib.hid Iff.rfl
        have HVN := Lib.hid (nd_vld hN.out hll)
        clear hb hL hR h1
        generalize (Lat.nd n lo).1 = f' at *
        generalize wd n (Lat.nd n lo).2.1 = x' at *
        generalize wd n (Lat.nd n lo).2.2 = y' at *
        generalize wd n (n - (Lat.nd n lo).2.1 - (Lat.nd n lo).2.2) = z' at *
        go_upto_region 7 with fail
        have HSUM := Lib.hid (sum_c HVN.out HV.out)
        by_cases hf1 : f' = f
        · subst hf1
          by_cases hx1 : x' = A
          · subst hx1
            by_cases hy1 : y' = B
            · subst hy1
              have hz1 : z' = C := HSUM.out rfl rfl
              subst hz1
              have HS := Lib.hid (HSN.out.2 ⟨rfl, rfl, rfl⟩)
              go_quiet (fail)
              go_wp2_with fail
              go_ret
              exact ⟨by rw [← hgp.out] at HB; exact below_drewN HB.out _, lo, rfl, .inl ⟨lo, hll, rfl, HS.out⟩⟩
            · have q3 : (y' == B) = false := beq_eq_false_iff_ne.2 hy1
              have HS : Hid (¬ sameN n lo f' x' B) := Lib.hid (fun h => hy1 (HSN.out.1 h).2.2)
              clear hy1
              go_quiet (fail)
              go_wp2_with fail
              go_ret
              exact ⟨by rw [← hgp.out] at HB; exact below_drewN HB.out _, -1, rfl, .inr ⟨rfl, fun k hk h => HS.out (by rw [← HFACT.out k hk h]; exact h)⟩⟩
          · have q2 : (x' == A) = false := beq_eq_false_iff_ne.2 hx1
            have HS : Hid (¬ sameN n lo f' A B) := Lib.hid (fun h => hx1 (HSN.out.1 h).2.1)
            clear hx1
            go_quiet (fail)
            go_wp2_with fail
            go_ret
            exact ⟨by rw [← hgp.out] at HB; exact below_drewN HB.out _, -1, rfl, .inr ⟨rfl, fun k hk h => HS.out (by rw [← HFACT.out k hk h]; exact h)⟩⟩
        · have q1 : ((f' : Int) == (f : Int)) = false := beq_eq_false_iff_ne.2 (by omega)
          have HS : Hid (¬ sameN n lo f A B) := Lib.hid (fun h => hf1 (HSN.out.1 h).1)
          clear hf1
          go_quiet (fail)
          go_wp2_with fail
          go_ret
          exact ⟨by rw [← hgp.out] at HB; exact below_drewN HB.out _, -1, rfl, .inr ⟨rfl, fun k hk h => HS.out (by rw [← HFACT.out k hk h]; exact h)⟩⟩
      · clear hb hL hR
        have k1 : ¬ ((lo : Int) < (cn n : Int)) := by omega
        go_upto_region 7 with fail
        go_quiet (fail)
        go_wp2_with fail
        go_ret
        exact ⟨by rw [← hgp.out] at HB; exact below_drewN HB.out _, -1, rfl, .inr ⟨rfl, fun k hk h => by have := HFACT.out k hk h; omega⟩⟩
end Go.Proofs.YtejoabaanclcbaaGreat


