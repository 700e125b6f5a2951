/- A formatted bulletin is read back; the reference's Same of equal bulletins. The reference's Same of equal bulletins. Lists of numbers in memory; keep.Ints of equal lists. The sanity check of every statement of the layer. The walk of the sanity check. -/
import Derived.Test.YtfnlgfacadmjpaaGreatDoorBFt
import Derived.Test.YtfnlgfacadmjpaaGreatDoorGRc
import Derived.Test.YtfnlgfacadmjpaaGreatDoorEWith
import Derived.Test.YtfnlgfacadmjpaaGreatDoorERDescD
namespace Go.Proofs.YtfnlgfacadmjpaaGreatDoor.Bu
open Go.RowKit

theorem cRep_self (k : Int) (nm : ByteArray) (t F A B C : Int) (L : List El.Elt.R) : cRep k nm t F A B C L k nm t F A B C L = 0 := by
  have z : ∀ x : Int, Cmpr.num x x = 0 := fun x => (Cmpr.num_tot.zero x x).2 rfl
  unfold cRep
  rw [(ctx_tot.zero nm nm).2 rfl, (cRs_tot.zero L L).2 rfl, z, z, z, z, z, z]
  rfl
theorem lns_bdy {R : List Rp} (h : ∀ r ∈ R, Vd r.k r.nm r.t r.F r.A r.B r.C r.L) (b : List UInt8) : lns (bdy R ++ b) = (R.map fun r => gtx r.k r.nm r.t r.F r.A r.B r.L ++ ends) ++ lns b := by
  have e : (fun r : Rp => gtx r.k r.nm r.t r.F r.A r.B r.L ++ ends) = (fun l : List UInt8 => l ++ [10]) ∘ (fun r : Rp => gtx r.k r.nm r.t r.F r.A r.B r.L ++ [61]) := by
    funext r; simp [ends]
  unfold bdy
  rw [e, ← List.map_map]
  refine lns_join _ b ?_
  intro a ha c hc
  obtain ⟨r, hr, rfl⟩ := List.mem_map.1 ha
  rcases List.mem_append.1 hc with q | q
  · intro e; exact gtx_fr10 (h r hr) (e ▸ q)
  · rw [List.mem_singleton.1 q]; decide
theorem goods_nums (near : Int) : ∀ (ls : List (List UInt8)) (k : Nat), goods near (nums k ls) = ls.filterMap (rdl near)
  | [], _ => rfl
  | l :: ls, k => by
    have := goods_nums near ls (k + 1)
    unfold goods at this ⊢
    simp only [nums, List.filterMap_cons, this]
theorem reps_read {R : List Rp} {near : Int} (h : ∀ r ∈ R, Vd r.k r.nm r.t r.F r.A r.B r.C r.L ∧ Rdb r.t near) (k : Nat) : goods near (nums k (R.map fun r => gtx r.k r.nm r.t r.F r.A r.B r.L ++ ends)) = R.map Rp.key ∧ bads near (nums k (R.map fun r => gtx r.k r.nm r.t r.F r.A r.B r.L ++ ends)) = [] := by
  induction R generalizing k with
  | nil => exact ⟨rfl, rfl⟩
  | cons r R ih =>
    obtain ⟨a, b⟩ := ih (fun x hx => h x (by simp [hx])) (k + 1)
    have e := rldq_rep (h r (by simp)).1 (h r (by simp)).2
    unfold goods at a ⊢
    unfold bads at b ⊢
    constructor
    · simp only [List.map_cons, nums, List.filterMap_cons, e, a]
    · simp only [List.map_cons, nums, List.filterMap_cons, e, b]
/-- The text of a valid bulletin is read back. -/
theorem parse_back (c : List UInt8) (t cor del : Int) (R : List Rp) (near : Int) (w : World) (hE : Env w) (hV : VdB (S c) t cor del R) (hn : 0 ≤ near ∧ near ≤ 52595999) (hr : Rdb t near) (hl : R.length ≤ 20) :
    Calls Tryz.prog 22 #[.string (S (hdT c t cor del ++ 10 :: bdy R)), .int .i64 near] w fun e w' => ∃ (R' : List Rp) (vr : Value) (B : Option Addr) (d : Nat), R'.map Rp.key = R.map Rp.key ∧ e = .returned (.tuple #[bulV (S c) t cor del vr, .slice B 0 d, .int .i64 0]) ∧ RpsIn w' vr R' ∧ Below w.heap.size w w' := by
  have hb := bdy_len R (fun r hr => (hV.hreps r hr).1)
  have hh := hdT_len hV.hctr hV.htime hV.hcor hV.hdel hV.hone
  have hlns := lns_bdy (fun r hr => (hV.hreps r hr).1) []
  rw [List.append_nil] at hlns
  have hl0 : lns (bdy R) = R.map fun r => gtx r.k r.nm r.t r.F r.A r.B r.L ++ ends := by rw [hlns]; simp [lns]
  refine (parse_text (hdT c t cor del) (bdy R) near w hE hn (hdT_fr10 hV.hctr hV.htime hV.hcor hV.hdel) (by omega) (by rw [hl0, List.length_map]; omega)).mono ?_
  have hH := hdr_hdT (near := near) hV.hctr hV.htime hV.hcor hV.hdel hV.hone hr
  obtain ⟨g1, g2⟩ := reps_read (near := t) (fun r hr => ⟨(hV.hreps r hr).1, rdb_iff.1 (hV.hreps r hr).2⟩) 1
  rintro e w' (⟨c', t', cor', del', R', vr, vd, hH', hk, rfl, o1, o2, hrd, hg⟩ | ⟨hno, -, -⟩)
  · obtain ⟨rfl, rfl, rfl, rfl⟩ := hH.one hH'
    rw [hl0, g1] at hk
    rw [hl0, g2] at o2
    obtain ⟨B, d, rfl⟩ := row_form o2
    exact ⟨R', vr, B, d, hk, rfl, RpsIn.own o1 (fun r hr => (hrd r hr).1), hg⟩
  · exact absurd hH (hno _ _ _ _)
set_option maxRecDepth 100000 in
set_option maxHeartbeats 2000000 in
theorem sameAll_yes (u v : Value) (R R' : List Rp) (w : World) (hu : RpsIn w u R) (hv : RpsIn w v R') (hk : R.map Rp.key = R'.map Rp.key) :
    Calls Tryz.prog 27 #[u, v] w fun e w' => e = .returned (.bool true) ∧ Below w.heap.size w w' := by
  have hlen : R'.length = R.length := by have := congrArg List.length hk; simpa using this.symm
  have HU := Lib.hid hu
  have HV := Lib.hid hv
  obtain ⟨A, cap, rfl, h1, h2, -⟩ := hu
  obtain ⟨B, cab, rfl, h3, h4, -⟩ := hv
  have HL := Lib.hid hlen
  have HK := Lib.hid hk
  rw [hlen] at h3 ⊢
  clear hk hlen
  go_enter Tryz.func27, Tryz.ntmps27
  go_wp2_with fail
  go_loopw [5] (fun t Y => ∃ k : Nat, k ≤ R.length ∧ t = .int .i64 k ∧ Hid (Below w.heap.size w Y)) (fun t _ => R.length - (intOf t).toNat)
  case atStart => exact ⟨0, Nat.zero_le _, rfl, Lib.hid (Below.refl _ _)⟩
  case round =>
    obtain ⟨k, hk, rfl, M⟩ := hrel
    by_cases hlt : k < R.length
    · have k0 : (0 : Int) ≤ (k : Int) := by omega
      have k1 : (k : Int) < (R.length : Int) := by omega
      have hlt' : k < R'.length := by have := HL.out; omega
      obtain ⟨A', cap', ea, -, -, h4⟩ := (HU.out.under M.out)
      injection ea with ea el ec
      clear el
      subst ea
      subst ec
      obtain ⟨g, off, rfl, hgl, h8, hrd⟩ := h4 k hlt
      obtain ⟨B', cab', eb, -, -, h4'⟩ := (HV.out.under M.out)
      injection eb with eb el ed
      clear el
      subst eb
      subst ed
      obtain ⟨g', off', rfl, hgl', h8', hrd'⟩ := h4' k hlt'
      have hkk : (R[k]).key = (R'[k]).key := by
        have := congrArg (fun l : List _ => l[k]?) HK.out
        simp only [List.getElem?_map, List.getElem?_eq_getElem hlt, List.getElem?_eq_getElem hlt', Option.map_some, Option.some.injEq] at this
        exact this
      obtain ⟨rk, hrk0⟩ : ∃ rk, R[k] = rk := ⟨_, rfl⟩
      obtain ⟨rk', hrk0'⟩ : ∃ rk, R'[k] = rk := ⟨_, rfl⟩
      rw [hrk0] at h8 hrd hkk
      rw [hrk0'] at h8' hrd' hkk
      clear hrk0 hrk0' h4 h4'
      obtain ⟨kk, nm, tt, F, A0, B0, C, uu, L⟩ := rk
      obtain ⟨kk', nm', tt', F', A0', B0', C', uu', L'⟩ := rk'
      simp only [Rp.key, Prod.mk.injEq] at hkk
      obtain ⟨rfl, rfl, rfl, ⟨rfl, rfl, rfl, rfl⟩, rfl⟩ := hkk
      obtain ⟨Au, cu, eu, -⟩ := id hrd
      obtain ⟨Au', cu', eu', -⟩ := id hrd'
      simp only at eu eu' hrd hrd'
      subst eu; subst eu'
      have hd : Below wr.heap.size wr wr.drew := below_drewN (Below.refl _ _) 1
      have HSm := refSame_any kk nm tt F A0 B0 C (.slice Au L.length cu) L kk nm tt F A0 B0 C (.slice Au' L.length cu') L wr.drew (hrd.under hd) (hrd'.under hd)
      rw [cRep_self] at HSm
      have HSm := Lib.hid HSm
      have H8 := Lib.hid (⟨h8.under hgl hd, h8'.under hgl' hd, hgl, hgl'⟩ : At8 wr.drew g (off + k * 8) ⟨kk, nm, tt, F, A0, B0, C, .slice Au L.length cu, L⟩ ∧ At8 wr.drew g' (off' + k * 8) ⟨kk, nm, tt, F, A0, B0, C, .slice Au' L.length cu', L⟩ ∧ g < wr.drew.heap.size ∧ g' < wr.drew.heap.size)
      have M2 : Hid (Below w.heap.size w wr.drew) := Lib.hid (M.out.trans (hd.mono M.out.size))
      clear hrd hrd' hd hgl hgl' h8 h8' M
      go_upto_region 6 with fail
      refine wp_region_held_drew (S := fun Y : World => (Y.cell? ⟨g, off + k * 8, none⟩ = some (.int .i64 kk) ∧ Y.cell? ⟨g, off + k * 8 + 1, none⟩ = some (.string nm) ∧ Y.cell? ⟨g, off + k * 8 + 2, none⟩ = some (.int .i64 tt) ∧ Y.cell? ⟨g, off + k * 8 + 3, none⟩ = some (.int .i64 F) ∧ Y.cell? ⟨g, off + k * 8 + 4, none⟩ = some (.int .i64 A0) ∧ Y.cell? ⟨g, off + k * 8 + 5, none⟩ = some (.int .i64 B0) ∧ Y.cell? ⟨g, off + k * 8 + 6, none⟩ = some (.int .i64 C) ∧ Y.cell? ⟨g, off + k * 8 + 7, none⟩ = some (.slice Au L.length cu)) ∧ (Y.cell? ⟨g', off' + k * 8, none⟩ = some (.int .i64 kk) ∧ Y.cell? ⟨g', off' + k * 8 + 1, none⟩ = some (.string nm) ∧ Y.cell? ⟨g', off' + k * 8 + 2, none⟩ = some (.int .i64 tt) ∧ Y.cell? ⟨g', off' + k * 8 + 3, none⟩ = some (.int .i64 F) ∧ Y.cell? ⟨g', off' + k * 8 + 4, none⟩ = some (.int .i64 A0) ∧ Y.cell? ⟨g', off' + k * 8 + 5, none⟩ = some (.int .i64 B0) ∧ Y.cell? ⟨g', off' + k * 8 + 6, none⟩ = some (.int .i64 C) ∧ Y.cell? ⟨g', off' + k * 8 + 7, none⟩ = some (.slice Au' L.length cu'))) (by kernel_rfl) ⟨H8.out.1, H8.out.2.1⟩ (fun hHeld => ?_)
      generalize wr.drew = X at *
      have hh := hHeld
      obtain ⟨⟨c0, c1, c2, c3, c4, c5, c6, c7⟩, d0, d1, d2, d3, d4, d5, d6, d7⟩ := hh
      refine wpAnyH_take (i := 0) (oi := ⟨some 17, _, _, _, _, none⟩) (v := ?_) rfl (by kernel_rfl) (by kernel_rfl) (by kernel_rfl) (fun _ _ _ h => h) (Or.inl ⟨by rfl, ?_⟩) (by assumption) ?_
      case refine_2 => (intro wx hSx; (try dsimp only at hSx); go_simp; first | done | with_reducible rfl)
      try simp only [Act.put, List.setIfInBounds_toArray, List.set_cons_zero, List.set_cons_succ]
      refine wpAnyH_take (i := 1) (oi := ⟨some 18, _, _, _, _, none⟩) (v := ?_) rfl (by kernel_rfl) (by kernel_rfl) (by kernel_rfl) (fun _ _ _ h => h) (Or.inl ⟨by rfl, ?_⟩) (by assumption) ?_
      case refine_2 => (intro wx hSx; (try dsimp only at hSx); go_simp; first | done | with_reducible rfl)
      try simp only [Act.put, List.setIfInBounds_toArray, List.set_cons_zero, List.set_cons_succ]
      refine wpAnyH_take (i := 2) (oi := ⟨some 19, _, _, _, _, none⟩) (v := ?_) rfl (by kernel_rfl) (by kernel_rfl) (by kernel_rfl) (fun _ _ _ h => h) (Or.inl ⟨by rfl, ?_⟩) (by assumption) ?_
      case refine_2 => (intro wx hSx; (try dsimp only at hSx); go_simp; first | done | with_reducible rfl)
      try simp only [Act.put, List.setIfInBounds_toArray, List.set_cons_zero, List.set_cons_succ]
      refine wpAnyH_take (i := 3) (oi := ⟨some 20, _, _, _, _, none⟩) (v := ?_) rfl (by kernel_rfl) (by kernel_rfl) (by kernel_rfl) (fun _ _ _ h => h) (Or.inl ⟨by rfl, ?_⟩) (by assumption) ?_
      case refine_2 => (intro wx hSx; (try dsimp only at hSx); go_simp; first | done | with_reducible rfl)
      try simp only [Act.put, List.setIfInBounds_toArray, List.set_cons_zero, List.set_cons_succ]
      refine wpAnyH_take (i := 4) (oi := ⟨some 21, _, _, _, _, none⟩) (v := ?_) rfl (by kernel_rfl) (by kernel_rfl) (by kernel_rfl) (fun _ _ _ h => h) (Or.inl ⟨by rfl, ?_⟩) (by assumption) ?_
      case refine_2 => (intro wx hSx; (try dsimp only at hSx); go_simp; first | done | with_reducible rfl)
      try simp only [Act.put, List.setIfInBounds_toArray, List.set_cons_zero, List.set_cons_succ]
      refine wpAnyH_take (i := 5) (oi := ⟨some 22, _, _, _, _, none⟩) (v := ?_) rfl (by kernel_rfl) (by kernel_rfl) (by kernel_rfl) (fun _ _ _ h => h) (Or.inl ⟨by rfl, ?_⟩) (by assumption) ?_
      case refine_2 => (intro wx hSx; (try dsimp only at hSx); go_simp; first | done | with_reducible rfl)
      try simp only [Act.put, List.setIfInBounds_toArray, List.set_cons_zero, List.set_cons_succ]
      refine wpAnyH_take (i := 6) (oi := ⟨some 23, _, _, _, _, none⟩) (v := ?_) rfl (by kernel_rfl) (by kernel_rfl) (by kernel_rfl) (fun _ _ _ h => h) (Or.inl ⟨by rfl, ?_⟩) (by assumption) ?_
      case refine_2 => (intro wx hSx; (try dsimp only at hSx); go_simp; first | done | with_reducible rfl)
      try simp only [Act.put, List.setIfInBounds_toArray, List.set_cons_zero, List.set_cons_succ]
      refine wpAnyH_take (i := 7) (oi := ⟨some 24, _, _, _, _, none⟩) (v := ?_) rfl (by kernel_rfl) (by kernel_rfl) (by kernel_rfl) (fun _ _ _ h => h) (Or.inl ⟨by rfl, ?_⟩) (by assumption) ?_
      case refine_2 => (intro wx hSx; (try dsimp only at hSx); go_simp; first | done | with_reducible rfl)
      try simp only [Act.put, List.setIfInBounds_toArray, List.set_cons_zero, List.set_cons_succ]
      refine wpAnyH_ready (rs := [8]) (by kernel_rfl) (by simp) ?_
      refine AllReadyH.cons (o := ⟨some 25, _, _, _, _, none⟩) rfl (fun Kx hK => ?_) AllReadyH.nil
      go_simp
      refine HSm.out.mono ?_
      rintro e w3 ⟨rfl, hb⟩
      have M3 : Hid (Below w.heap.size w w3) := Lib.hid (M2.out.trans (hb.mono M2.out.size))
      have S3 := (⟨H8.out.1.under H8.out.2.2.1 hb, H8.out.2.1.under H8.out.2.2.2 hb⟩ : At8 w3 g (off + k * 8) ⟨kk, nm, tt, F, A0, B0, C, .slice Au L.length cu, L⟩ ∧ At8 w3 g' (off' + k * 8) ⟨kk, nm, tt, F, A0, B0, C, .slice Au' L.length cu', L⟩)
      clear hb M2 H8 c0 c1 c2 c3 c4 c5 c6 c7 d0 d1 d2 d3 d4 d5 d6 d7
      go_simp
      refine hK.out _ _ S3 (fun hHeld3 => ?_)
      clear hK Kx S3
      ((try simp only [Act.put]); (try simp only [List.setIfInBounds_toArray]); (try simp only [List.set_cons_succ]); (try simp only [List.set_cons_zero]))
      refine wpAnyH_take (i := 9) (oi := ⟨some 26, _, _, _, _, none⟩) (v := ?_) rfl (by kernel_rfl) (by kernel_rfl) (by kernel_rfl) (fun _ _ _ h => h) (Or.inl ⟨by rfl, ?_⟩) (by assumption) ?_
      case refine_2 => (intro wx hSx; (try dsimp only at hSx); go_simp; first | done | with_reducible rfl)
      try simp only [Act.put, List.setIfInBounds_toArray, List.set_cons_zero, List.set_cons_succ]
      refine wpAnyH_done (by kernel_rfl) ?_ _
      clear hHeld3
      go_wp2_with fail
      go_roundw
      case rel => exact ⟨k + 1, by omega, by go_num, M3⟩
      case measure => simp [intOf]; omega
    · have k1 : ¬ (k : Int) < (R.length : Int) := by omega
      go_wp2_with fail
      go_ret
      exact ⟨rfl, M.out⟩
end Go.Proofs.YtfnlgfacadmjpaaGreatDoor.Bu
namespace Go.Proofs.YtfnlgfacadmjpaaGreatDoor.Bu
open Go.RowKit

set_option maxRecDepth 100000 in
set_option maxHeartbeats 2000000 in
theorem same6_yes (c : ByteArray) (t cor del : Int) (u v : Value) (R R' : List Rp) (w : World) (hu : RpsIn w u R) (hv : RpsIn w v R') (hk : R.map Rp.key = R'.map Rp.key) :
    Calls Tryz.prog 20 #[bulV c t cor del u, bulV c t cor del v] w fun e w' => e = .returned (.bool true) ∧ Below w.heap.size w w' := by
  have HU := Lib.hid hu
  have HV := Lib.hid hv
  have HK := Lib.hid hk
  obtain ⟨A, cap, rfl, -, -, -⟩ := hu
  obtain ⟨B, cab, rfl, -, -, -⟩ := hv
  have b1 := Bx.new w c t cor del (.slice A R.length cap)
  have b2 := b1.under ((Below.refl _ _).alloc (Nat.le_refl _) (.cells (bulC c t cor del (.slice B R'.length cab)) 24))
  have r2 : Row ((w.alloc (.cells (bulC c t cor del (.slice A R.length cap)) 24)).alloc (.cells (bulC c t cor del (.slice B R'.length cab)) 24)) (w.heap.size + 1) 24 (bulC c t cor del (.slice B R'.length cab)) := Row.newAt (by simp)
  have HJ := Lib.hid (⟨b2, r2⟩ : Bx w w.heap.size c t cor del (.slice A R.length cap) _ ∧ Row _ (w.heap.size + 1) 24 (bulC c t cor del (.slice B R'.length cab)))
  clear b1 b2 r2 hk
  go_enter Tryz.func20, Tryz.ntmps20
  go_upto_region 1 with fail
  refine forget (fun V => Hid (Bx w w.heap.size c t cor del (.slice A R.length cap) V ∧ Row V (w.heap.size + 1) 24 (bulC c t cor del (.slice B R'.length cab)))) HJ ?_
  clear HJ
  intro Y HJ
  obtain ⟨q0, q1, q2, q3, q4⟩ := row5 HJ.out.1.1
  obtain ⟨p0, p1, p2, p3, p4⟩ := row5 HJ.out.2
  have HS := Lib.hid (sameAll_yes _ _ R R' Y (HU.out.under HJ.out.1.2) (HV.out.under HJ.out.1.2) HK.out)
  have HB := Lib.hid HJ.out.1.2
  clear HJ
  have e0 : (c.toList == c.toList) = true := by simp
  go_wp2_with fail
  refine HS.out.mono ?_
  rintro e w2 ⟨rfl, hb⟩
  have HF := Lib.hid (HB.out.trans (hb.mono HB.out.size))
  clear hb q0 q1 q2 q3 q4 p0 p1 p2 p3 p4 HS
  go_wp2_with fail
  go_ret
  exact ⟨rfl, HF.out⟩
end Go.Proofs.YtfnlgfacadmjpaaGreatDoor.Bu
namespace Go.Proofs.YtfnlgfacadmjpaaGreatDoor.Bu
open Go.RowKit

/-- A list of numbers in memory. -/
def NumsIn (W : World) (v : Value) (L : List Int) : Prop := ∃ A cap, v = .slice A L.length cap ∧ L.length ≤ cap ∧ cap ≤ 9223372036854775807 ∧ ∀ i (h : i < L.length), ∃ g off, A = some ⟨g, off, none⟩ ∧ g < W.heap.size ∧ W.cell? ⟨g, off + i, none⟩ = some (.int .i64 L[i])
theorem NumsIn.under {W W' : World} {v : Value} {L : List Int} (h : NumsIn W v L) (hb : Below W.heap.size W W') : NumsIn W' v L := by
  obtain ⟨A, cap, h1, h2, h3, h4⟩ := h
  refine ⟨A, cap, h1, h2, h3, fun i hi => ?_⟩
  obtain ⟨g, off, e, hg, hc⟩ := h4 i hi
  exact ⟨g, off, e, Nat.lt_of_lt_of_le hg hb.size, (hb.cell (p := ⟨g, off + i, none⟩) hg).trans hc⟩
theorem NumsIn.own {W : World} {base : Nat} {v : Value} {L : List Int} (h : W.ownsRow base 3 1 v L.length (L.map (Value.int .i64))) : NumsIn W v L := by
  rcases h.2 with ⟨rfl, h0⟩ | ⟨g, cap, cur, rfl, hb, hg, hc, hm, hs, hx⟩
  · exact ⟨none, 0, by rw [h0], by omega, by omega, fun i hi => by omega⟩
  · refine ⟨some ⟨g, 0, none⟩, cap, rfl, hc, by unfold maxLen at hm; omega, fun i hi => ⟨g, 0, rfl, (Array.getElem?_eq_some_iff.1 hg).1, ?_⟩⟩
    have h1 : W.cell? ⟨g, 0 + i, none⟩ = cur[0 + i]? := by simp [World.cell?, hg]
    have h2 : (L.map (Value.int .i64))[i]? = some (.int .i64 L[i]) := by rw [List.getElem?_map, List.getElem?_eq_getElem hi]; rfl
    rw [h1, ← h2, ← hx, Nat.zero_add, ← Array.getElem?_toList, List.getElem?_take, if_pos (by omega)]
theorem NumsIn.one {W : World} {g : Nat} {t : TypeId} {x : Int} (h : Row W g t #[.int .i64 x]) : NumsIn W (.slice (some ⟨g, 0, none⟩) 1 1) [x] := by
  refine ⟨some ⟨g, 0, none⟩, 1, rfl, Nat.le_refl _, by omega, fun i hi => ⟨g, 0, rfl, h.lt, ?_⟩⟩
  obtain rfl : i = 0 := by simpa using hi
  exact (h.cell 0).trans rfl
set_option maxRecDepth 100000 in
set_option maxHeartbeats 2000000 in
theorem ints_yes (u v : Value) (L : List Int) (w : World) (hu : NumsIn w u L) (hv : NumsIn w v L) :
    Calls Tryz.prog 24 #[u, v] w fun e w' => e = .returned (.bool true) ∧ Below w.heap.size w w' := by
  have HU := Lib.hid hu
  have HV := Lib.hid hv
  obtain ⟨A, cap, rfl, h1, h2, -⟩ := hu
  obtain ⟨B, cab, rfl, h3, h4, -⟩ := hv
  go_enter Tryz.func24, Tryz.ntmps24
  go_wp2_with fail
  go_loopw [5] (fun t Y => ∃ k : Nat, k ≤ L.length ∧ t = .int .i64 k ∧ Hid (Below w.heap.size w Y)) (fun t _ => L.length - (intOf t).toNat)
  case atStart => exact ⟨0, Nat.zero_le _, rfl, Lib.hid (Below.refl _ _)⟩
  case round =>
    obtain ⟨k, hk, rfl, M⟩ := hrel
    by_cases hlt : k < L.length
    · have k0 : (0 : Int) ≤ (k : Int) := by omega
      have k1 : (k : Int) < (L.length : Int) := by omega
      have hd : Below wr.heap.size wr wr.drew := below_drewN (Below.refl _ _) 1
      obtain ⟨A', cap', ea, -, -, h4⟩ := (HU.out.under M.out)
      injection ea with ea el ec
      clear el
      subst ea
      subst ec
      obtain ⟨g, off, rfl, hgl, c0⟩ := h4 k hlt
      obtain ⟨B', cab', eb, -, -, h4'⟩ := (HV.out.under M.out)
      injection eb with eb el ed
      clear el
      subst eb
      subst ed
      obtain ⟨g', off', rfl, hgl', d0⟩ := h4' k hlt
      clear h4 h4'
      generalize L[k] = x at *
      have M2 : Hid (Below w.heap.size w wr.drew) := Lib.hid (M.out.trans (hd.mono M.out.size))
      have C0 : wr.drew.cell? ⟨g, off + k, none⟩ = some (.int .i64 x) := c0
      have D0 : wr.drew.cell? ⟨g', off' + k, none⟩ = some (.int .i64 x) := d0
      clear M hd c0 d0 hgl hgl'
      go_upto_region 6 with fail
      refine wp_region_held_drew (S := fun Y : World => Y.cell? ⟨g, off + k, none⟩ = some (.int .i64 x) ∧ Y.cell? ⟨g', off' + k, none⟩ = some (.int .i64 x)) (by kernel_rfl) ⟨C0, D0⟩ (fun hHeld => ?_)
      generalize wr.drew = X at *
      refine wpAnyH_take (i := 0) (oi := ⟨some 17, _, _, _, _, none⟩) (v := ?_) rfl (by kernel_rfl) (by kernel_rfl) (by kernel_rfl) (fun _ _ _ h => h) (Or.inl ⟨by rfl, ?_⟩) (by assumption) ?_
      case refine_2 => (intro wx hSx; (try dsimp only at hSx); go_simp; first | done | with_reducible rfl)
      try simp only [Act.put, List.setIfInBounds_toArray, List.set_cons_zero, List.set_cons_succ]
      refine wpAnyH_take (i := 1) (oi := ⟨some 18, _, _, _, _, none⟩) (v := ?_) rfl (by kernel_rfl) (by kernel_rfl) (by kernel_rfl) (fun _ _ _ h => h) (Or.inl ⟨by rfl, ?_⟩) (by assumption) ?_
      case refine_2 => (intro wx hSx; (try dsimp only at hSx); go_simp; first | done | with_reducible rfl)
      try simp only [Act.put, List.setIfInBounds_toArray, List.set_cons_zero, List.set_cons_succ]
      refine wpAnyH_take (i := 2) (oi := ⟨some 19, _, _, _, _, none⟩) (v := ?_) rfl (by kernel_rfl) (by kernel_rfl) (by kernel_rfl) (fun _ _ _ h => h) (Or.inl ⟨by rfl, ?_⟩) (by assumption) ?_
      case refine_2 => (intro wx hSx; (try dsimp only at hSx); go_simp; first | done | with_reducible rfl)
      try simp only [Act.put, List.setIfInBounds_toArray, List.set_cons_zero, List.set_cons_succ]
      refine wpAnyH_take (i := 3) (oi := ⟨some 20, _, _, _, _, none⟩) (v := ?_) rfl (by kernel_rfl) (by kernel_rfl) (by kernel_rfl) (fun _ _ _ h => h) (Or.inl ⟨by rfl, ?_⟩) (by assumption) ?_
      case refine_2 => (intro wx hSx; (try dsimp only at hSx); go_simp; first | done | with_reducible rfl)
      try simp only [Act.put, List.setIfInBounds_toArray, List.set_cons_zero, List.set_cons_succ]
      refine wpAnyH_take (i := 4) (oi := ⟨some 21, _, _, _, _, none⟩) (v := ?_) rfl (by kernel_rfl) (by kernel_rfl) (by kernel_rfl) (fun _ _ _ h => h) (Or.inl ⟨by rfl, ?_⟩) (by assumption) ?_
      case refine_2 => (intro wx hSx; (try dsimp only at hSx); go_simp; first | done | with_reducible rfl)
      try simp only [Act.put, List.setIfInBounds_toArray, List.set_cons_zero, List.set_cons_succ]
      refine wpAnyH_take (i := 5) (oi := ⟨some 22, _, _, _, _, none⟩) (v := ?_) rfl (by kernel_rfl) (by kernel_rfl) (by kernel_rfl) (fun _ _ _ h => h) (Or.inl ⟨by rfl, ?_⟩) (by assumption) ?_
      case refine_2 => (intro wx hSx; (try dsimp only at hSx); go_simp; first | done | with_reducible rfl)
      try simp only [Act.put, List.setIfInBounds_toArray, List.set_cons_zero, List.set_cons_succ]
      refine wpAnyH_take (i := 6) (oi := ⟨some 23, _, _, _, _, none⟩) (v := ?_) rfl (by kernel_rfl) (by kernel_rfl) (by kernel_rfl) (fun _ _ _ h => h) (Or.inl ⟨by rfl, ?_⟩) (by assumption) ?_
      case refine_2 => (intro wx hSx; (try dsimp only at hSx); go_simp; first | done | with_reducible rfl)
      try simp only [Act.put, List.setIfInBounds_toArray, List.set_cons_zero, List.set_cons_succ]
      refine wpAnyH_take (i := 7) (oi := ⟨some 24, _, _, _, _, none⟩) (v := ?_) rfl (by kernel_rfl) (by kernel_rfl) (by kernel_rfl) (fun _ _ _ h => h) (Or.inl ⟨by rfl, ?_⟩) (by assumption) ?_
      case refine_2 => (intro wx hSx; (try dsimp only at hSx); go_simp; first | done | with_reducible rfl)
      try simp only [Act.put, List.setIfInBounds_toArray, List.set_cons_zero, List.set_cons_succ]
      refine wpAnyH_take (i := 8) (oi := ⟨some 25, _, _, _, _, none⟩) (v := ?_) rfl (by kernel_rfl) (by kernel_rfl) (by kernel_rfl) (fun _ _ _ h => h) (Or.inl ⟨by rfl, ?_⟩) (by assumption) ?_
      case refine_2 => (intro wx hSx; (try dsimp only at hSx); go_simp; first | done | with_reducible rfl)
      try simp only [Act.put, List.setIfInBounds_toArray, List.set_cons_zero, List.set_cons_succ]
      refine wpAnyH_done (by kernel_rfl) ?_ _
      clear hHeld
      go_wp2_with fail
      go_roundw
      case rel => exact ⟨k + 1, by omega, by go_num, M2⟩
      case measure => simp [intOf]; omega
    · have k1 : ¬ (k : Int) < (L.length : Int) := by omega
      go_wp2_with fail
      go_ret
      exact ⟨rfl, M.out⟩
end Go.Proofs.YtfnlgfacadmjpaaGreatDoor.Bu
namespace Go.Proofs.YtfnlgfacadmjpaaGreatDoor.Bu
open Go.RowKit

def exN : Int := 14136080
def exD : ByteArray := ⟨#[50, 48, 50, 54, 45, 49, 49, 45, 49, 54, 32, 49, 55, 58, 50, 48]⟩
def exNm : ByteArray := ⟨#[48, 49, 50, 51, 52]⟩
def exL : List El.Elt.R := [(2, 2800)]
def exR : Rp := ⟨1, exNm, exN, 0, 0, 0, 0, .slice none 0 0, exL⟩
def exC : List UInt8 := [69, 68, 90, 87]
def exB : List UInt8 := [76, 65, 78, 68, 32, 48, 49, 50, 51, 52, 32, 49, 54, 49, 55, 50, 48, 32, 84, 50, 56, 48, 48]
def exH : List UInt8 := [83, 89, 78, 79, 80, 32, 69, 68, 90, 87, 32, 49, 54, 49, 55, 50, 48, 32, 67, 67, 66]
theorem exD_fld : Ck.rfld exD 0 4 = 2026 ∧ Ck.rfld exD 5 7 = 11 ∧ Ck.rfld exD 8 10 = 16 ∧ Ck.rfld exD 11 13 = 17 ∧ Ck.rfld exD 14 16 = 20 := by decide +kernel
theorem exD_seps : Ck.seps exD (by decide) := by unfold Ck.seps; decide +kernel
theorem exParse (w : World) :
    Calls Tryz.prog 30 #[.string ⟨#[50, 48, 50, 54, 45, 49, 49, 45, 49, 54, 32, 49, 55, 58, 50, 48]⟩] w fun e w' => e = .returned (.tuple #[.int .i64 exN, .int .i64 0]) ∧ Below w.heap.size w w' := by
  obtain ⟨e1, e2, e3, e4, e5⟩ := exD_fld
  have h := Ck.refParse_yes exD w (by decide) exD_seps (by rw [e1, e2, e3, e4, e5]; decide)
  rw [e1, e2, e3, e4, e5, show Ck.Cal.num 2026 11 16 17 20 = exN by decide] at h
  exact h
theorem dt_is {t y m d h i : Int} (hd : Dt t y m d h i) : dayOf t = d ∧ hourOf t = h ∧ minOf t = i := by
  have hb := Ck.Cal.num_bd hd.1
  rw [hd.2] at hb
  obtain ⟨y', m', hv, hn⟩ := dt_of hb
  have := Ck.Cal.num_inj hv hd.1 (hn.trans hd.2.symm)
  exact ⟨this.2.2.1, this.2.2.2.1, this.2.2.2.2⟩
theorem exDt : dayOf exN = 16 ∧ hourOf exN = 17 ∧ minOf exN = 20 := dt_is (y := 2026) (m := 11) ⟨by decide, by decide⟩
theorem exS : stp exN = [49, 54, 49, 55, 50, 48] := by
  unfold stp
  obtain ⟨e1, e2, e3⟩ := exDt
  rw [e1, e2, e3]; decide +kernel
theorem exV : Vd 1 exNm exN 0 0 0 0 exL := by
  refine ⟨by omega, by decide +kernel, by unfold exN; omega, by decide +kernel, ?_⟩
  refine (El.Elt.vld_good (L := exL) (by decide +kernel)).1 ?_
  intro j hj
  have hl : exL.length = 1 := rfl
  omega
theorem exTxt : gtx 1 exNm exN 0 0 0 exL = exB := by
  unfold gtx wds
  rw [exS]
  decide +kernel
theorem exHd : hdT exC exN 2 0 = exH := by
  unfold hdT hdW
  rw [exS]
  decide +kernel
theorem exRdb : Rdb exN exN := rdb_near exV.time exV.time (by omega) (by omega)
theorem exVdB : VdB (S exC) exN 2 0 [exR] := by
  refine ⟨by decide +kernel, by unfold exN; omega, by omega, by omega, .inr rfl, by decide, fun r hr => ?_⟩
  rw [List.mem_singleton.1 hr]
  exact ⟨exV, rdb_iff.2 exRdb⟩
theorem exT1 : exH ++ 10 :: (exB ++ [61, 10]) = [83, 89, 78, 79, 80, 32, 69, 68, 90, 87, 32, 49, 54, 49, 55, 50, 48, 32, 67, 67, 66, 10, 76, 65, 78, 68, 32, 48, 49, 50, 51, 52, 32, 49, 54, 49, 55, 50, 48, 32, 84, 50, 56, 48, 48, 61, 10] := rfl
theorem exT2 : exH ++ 10 :: (exB ++ [10]) = [83, 89, 78, 79, 80, 32, 69, 68, 90, 87, 32, 49, 54, 49, 55, 50, 48, 32, 67, 67, 66, 10, 76, 65, 78, 68, 32, 48, 49, 50, 51, 52, 32, 49, 54, 49, 55, 50, 48, 32, 84, 50, 56, 48, 48, 10] := rfl
/-- The first text. -/
theorem awake_one (w : World) (hE : Env w) :
    Calls Tryz.prog 22 #[.string ⟨#[83, 89, 78, 79, 80, 32, 69, 68, 90, 87, 32, 49, 54, 49, 55, 50, 48, 32, 67, 67, 66, 10, 76, 65, 78, 68, 32, 48, 49, 50, 51, 52, 32, 49, 54, 49, 55, 50, 48, 32, 84, 50, 56, 48, 48, 61, 10]⟩, .int .i64 exN] w fun e w' => ∃ A c B d, e = .returned (.tuple #[bulV (S exC) exN 2 0 (.slice A 1 c), .slice B 0 d, .int .i64 0]) ∧ Below w.heap.size w w' := by
  have h := parse_back exC exN 2 0 [exR] exN w hE exVdB exV.time exRdb (by decide)
  have eb : bdy [exR] = exB ++ [61, 10] := by
    unfold bdy
    rw [List.map_cons, List.map_nil, List.flatten_cons, List.flatten_nil, List.append_nil]
    show gtx 1 exNm exN 0 0 0 exL ++ ends = _
    rw [exTxt]; rfl
  rw [exHd, eb, exT1] at h
  refine h.mono ?_
  rintro e w' ⟨R', vr, B, d, hk, rfl, ⟨A, c, rfl, -⟩, hb⟩
  have hl : R'.length = 1 := by have := congrArg List.length hk; simpa using this
  exact ⟨A, c, B, d, by rw [hl], hb⟩
theorem awake_two (w : World) (hE : Env w) :
    Calls Tryz.prog 22 #[.string ⟨#[83, 89, 78, 79, 80, 32, 69, 68, 90, 87, 32, 49, 54, 49, 55, 50, 48, 32, 67, 67, 66, 10, 76, 65, 78, 68, 32, 48, 49, 50, 51, 52, 32, 49, 54, 49, 55, 50, 48, 32, 84, 50, 56, 48, 48, 10]⟩, .int .i64 exN] w fun e w' => ∃ A k c B d, e = .returned (.tuple #[bulV (S exC) exN 2 0 (.slice A k c), .slice B 1 d, .int .i64 0]) ∧ NumsIn w' (.slice B 1 d) [1] ∧ Below w.heap.size w w' := by
  have hl0 : lns (exB ++ [10]) = [exB ++ [10]] := by decide +kernel
  have h := parse_text exH (exB ++ [10]) exN w hE exV.time (by decide) (by decide) (by rw [hl0]; decide)
  rw [exT2] at h
  have hH : Hdr (hws exH) exN exC exN 2 0 := by rw [← exHd]; exact hdr_hdT exVdB.hctr exV.time (by omega) (by omega) (.inr rfl) exRdb
  have hno : rdl exN (exB ++ [10]) = none := rdl_no fun k nm t F A B C L ⟨x, e, _⟩ => by
    have : (exB ++ [10]).getLast? = (x ++ ends).getLast? := by rw [e]
    have h2 := congrArg (fun l : List UInt8 => (l.reverse.drop 1).head?) e
    simp [exB, ends] at h2
  refine h.mono ?_
  rintro e w' (⟨c', t', cor', del', R', vr, vd, hH', hk, rfl, o1, o2, hrd, hg⟩ | ⟨hno, -, -⟩)
  · obtain ⟨rfl, rfl, rfl, rfl⟩ := hH.one hH'
    have hb1 : bads exN (nums 1 (lns (exB ++ [10]))) = [1] := by rw [hl0]; simp [bads, nums, hno]
    rw [hb1] at o2
    obtain ⟨A, c, ea⟩ := row_form o1
    obtain ⟨B, d, eb⟩ := row_form o2
    subst ea
    have hN := NumsIn.own (L := [1]) o2
    subst eb
    exact ⟨A, _, c, B, d, rfl, hN, hg⟩
  · exact absurd hH (hno _ _ _ _)
end Go.Proofs.YtfnlgfacadmjpaaGreatDoor.Bu
namespace Go.Proofs.YtfnlgfacadmjpaaGreatDoor.Bu
open Go.RowKit

set_option maxRecDepth 100000 in
set_option maxHeartbeats 2000000 in
theorem awake_any (w : World) (hE : Env w) :
    Calls Tryz.prog 11 #[] w fun e w' => e = .returned (.bool true) ∧ Below w.heap.size w w' := by
  have HD := Lib.hid exParse
  have H1 := Lib.hid awake_one
  have H2 := Lib.hid awake_two
  have HE := Lib.hid hE
  clear hE
  generalize exN = n at *
  generalize S exC = sc at *
  go_enter Tryz.func11, Tryz.ntmps11
  go_wp2_with fail
  refine (HD.out _).mono ?_
  rintro e w1 ⟨rfl, hb⟩
  have B1 := Lib.hid hb
  clear hb
  go_wp2_with fail
  refine (H1.out _ (HE.out.under B1.out)).mono ?_
  rintro e w2 ⟨A, c, B, d, rfl, hb⟩
  have hb2 : Below w2.heap.size w2 (w2.alloc (.cells (bulC sc n 2 0 (.slice A 1 c)) 24)) := (Below.refl _ _).alloc (Nat.le_refl _) _
  have J1 := Lib.hid (⟨Row.new w2 (bulC sc n 2 0 (.slice A 1 c)) 24, (B1.out.trans (hb.mono B1.out.size)).trans (hb2.mono (B1.out.trans (hb.mono B1.out.size)).size)⟩ : Row (w2.alloc (.cells (bulC sc n 2 0 (.slice A 1 c)) 24)) w2.heap.size 24 (bulC sc n 2 0 (.slice A 1 c)) ∧ Below w.heap.size w (w2.alloc (.cells (bulC sc n 2 0 (.slice A 1 c)) 24)))
  clear hb hb2 B1
  go_upto_region 3 with fail
  refine forget (fun V => Hid (Row V w2.heap.size 24 (bulC sc n 2 0 (.slice A 1 c)) ∧ Below w.heap.size w V)) J1 ?_
  clear J1
  generalize w2.heap.size = g3
  intro w3 J
  go_wp2_with fail
  refine (H2.out _ (HE.out.under J.out.2)).mono ?_
  rintro e w4 ⟨A', k', c', B', d', rfl, hN, hb⟩
  have hb2 : Below w4.heap.size w4 (w4.alloc (.cells (bulC sc n 2 0 (.slice A' k' c')) 24)) := (Below.refl _ _).alloc (Nat.le_refl _) _
  have hb3 : Below (w4.alloc (.cells (bulC sc n 2 0 (.slice A' k' c')) 24)).heap.size (w4.alloc (.cells (bulC sc n 2 0 (.slice A' k' c')) 24)) ((w4.alloc (.cells (bulC sc n 2 0 (.slice A' k' c')) 24)).alloc (.cells #[.int .i64 1] 3)) := (Below.refl _ _).alloc (Nat.le_refl _) _
  have J2 := (J.out.1.under hb).under hb2
  have BB := (J.out.2.trans (hb.mono J.out.2.size))
  have BB2 := BB.trans (hb2.mono BB.size)
  have HI := ints_yes (.slice B' 1 d') (.slice (some ⟨w4.heap.size + 1, 0, none⟩) 1 1) [1] _ ((hN.under hb2).under hb3) (NumsIn.one (Row.newAt (t := 3) (by simp)))
  have H5 := Lib.hid (⟨J2.under hb3, BB2.trans (hb3.mono BB2.size), HI⟩ : Row ((w4.alloc (.cells (bulC sc n 2 0 (.slice A' k' c')) 24)).alloc (.cells #[.int .i64 1] 3)) g3 24 (bulC sc n 2 0 (.slice A 1 c)) ∧ Below w.heap.size w ((w4.alloc (.cells (bulC sc n 2 0 (.slice A' k' c')) 24)).alloc (.cells #[.int .i64 1] 3)) ∧ Calls Tryz.prog 24 #[.slice B' 1 d', .slice (some ⟨w4.heap.size + 1, 0, none⟩) 1 1] ((w4.alloc (.cells (bulC sc n 2 0 (.slice A' k' c')) 24)).alloc (.cells #[.int .i64 1] 3)) fun e w' => e = .returned (.bool true) ∧ Below ((w4.alloc (.cells (bulC sc n 2 0 (.slice A' k' c')) 24)).alloc (.cells #[.int .i64 1] 3)).heap.size ((w4.alloc (.cells (bulC sc n 2 0 (.slice A' k' c')) 24)).alloc (.cells #[.int .i64 1] 3)) w')
  clear hb hb2 hb3 J2 BB BB2 HI hN J
  go_wp2_with fail
  refine H5.out.2.2.mono ?_
  rintro e w6 ⟨rfl, hb⟩
  have H6 := Lib.hid (⟨H5.out.1.under hb, H5.out.2.1.trans (hb.mono H5.out.2.1.size)⟩ : Row w6 g3 24 (bulC sc n 2 0 (.slice A 1 c)) ∧ Below w.heap.size w w6)
  clear hb H5
  obtain ⟨q0, q1, q2, q3, q4⟩ := row5 H6.out.1
  go_wp2_with fail
  go_ret
  exact ⟨rfl, H6.out.2⟩
theorem awake_from {w0 : World} (X : World) (hE : Env X) (hb : Below w0.heap.size w0 X) :
    Calls Tryz.prog 11 #[] X fun e w' => e = .returned (.bool true) ∧ Below w0.heap.size w0 w' :=
  (awake_any X hE).mono fun _ _ ⟨he, hg⟩ => ⟨he, hb.trans (hg.mono hb.size)⟩
end Go.Proofs.YtfnlgfacadmjpaaGreatDoor.Bu
