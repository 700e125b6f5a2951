/- Contract of the program's Same. The comparison of reports is a total order; a report as an argument. The reference's Same of any two bulletins. Both sides' Same of any two bulletins. -/
import Derived.Test.YtfnlgfacadmjpaaGreatDoorGVali
import Derived.Test.YtfnlgfacadmjpaaGreatDoorERDescD
import Derived.Laws.StructEq
import Derived.ChangeKeysEq
import Derived.Test.YtfnlgfacadmjpaaGreatDoorGCmp
import Derived.Test.YtfnlgfacadmjpaaGreatDoorGNa
import Derived.Test.YtfnlgfacadmjpaaGreatDoorBAk
namespace Go.Proofs.YtfnlgfacadmjpaaGreatDoor
open Go.RowKit
attribute [local go_sem] El.eq_reading
set_option maxHeartbeats 1000000 in
theorem eqRs_any (va vb : Value) (L M : List El.Elt.R) (w : World) (ha : El.RdIn w va L) (hb : El.RdIn w vb M) :
    Calls Tryz.prog 85 #[va, vb] w fun e w' => e = .returned (.bool (decide (L = M))) ∧ Below w.heap.size w w' := by
  obtain ⟨A, cA, rfl, lA, mA, hA⟩ := ha
  obtain ⟨B, cB, rfl, lB, mB, hB⟩ := hb
  have HA := Lib.hid hA; clear hA
  have HB := Lib.hid hB; clear hB
  by_cases hl : L.length = M.length
  · have HL := Lib.hid hl
    rw [← hl] at lB
    rw [← hl]
    clear hl
    go_enter Tryz.func85, Tryz.ntmps85
    go_wp2_with fail
    go_loopw [5, 13] (fun _ t wr => ∃ k : Nat, k ≤ L.length ∧ t = .int .i64 k ∧ L.take k = M.take k ∧ ∃ q, wr = w.drewN q) (fun _ t _ => L.length - (intOf t).toNat)
    case atStart => exact ⟨0, by omega, rfl, rfl, 0, rfl⟩
    case round =>
      obtain ⟨k, hk, rfl, ht, q, rfl⟩ := hrel
      have HT := Lib.hid ht; clear ht
      by_cases hlt : k < L.length
      · have hltM : k < M.length := HL.out ▸ hlt
        obtain ⟨g, off, rfl, -, c0, c1⟩ := HA.out k hlt
        obtain ⟨g', off', rfl, -, d0, d1⟩ := HB.out k hltM
        have k0 : (0 : Int) ≤ (k : Int) := by omega
        have k1 : (k : Int) < (L.length : Int) := by omega
        have x1 : IntKind.i64.wrap (k : Int) = (k : Int) := IntWalk.i64_in _ (by omega)
        have hs : Hid (L[k] = M[k] → L.take (k + 1) = M.take (k + 1)) := Lib.hid (fun e => by rw [List.take_succ_eq_append_getElem hlt, List.take_succ_eq_append_getElem hltM, HT.out, e])
        have hn : Hid (L[k] ≠ M[k] → decide (L = M) = false) := Lib.hid (fun e => decide_eq_false (fun h => e (by subst h; rfl)))
        generalize L[k] = x at *
        generalize M[k] = y at *
        obtain ⟨x0, x2⟩ := x
        obtain ⟨y0, y2⟩ := y
        simp only at c0 c1 d0 d1
        by_cases h1 : x0 = y0
        · subst h1
          by_cases h2 : x2 = y2
          · subst h2
            go_wp2_with fail
            all_goals try go_quiet (fail)
            all_goals go_wp2_with fail
            go_roundw
            case rel => exact ⟨k + 1, by omega, by go_num, hs.out (by trivial), _, rfl⟩
            case measure => simp [intOf]; omega
          · have e2 : (x2 == y2) = false := beq_eq_false_iff_ne.2 h2
            have HN : Hid (decide (L = M) = false) := Lib.hid (hn.out (fun h => h2 (congrArg Prod.snd h)))
            clear h2
            go_wp2_with fail
            all_goals try go_quiet (fail)
            all_goals go_wp2_with fail
            go_ret
            exact ⟨by rw [HN.out]; rfl, ⟨rfl, rfl, rfl, Nat.le_refl _, fun _ _ => rfl⟩⟩
        · have e1 : ((x0 : Int) == (y0 : Int)) = false := beq_eq_false_iff_ne.2 (by omega)
          have HN : Hid (decide (L = M) = false) := Lib.hid (hn.out (fun h => h1 (congrArg Prod.fst h)))
          clear h1
          go_wp2_with fail
          all_goals try go_quiet (fail)
          all_goals go_wp2_with fail
          go_ret
          exact ⟨by rw [HN.out]; rfl, ⟨rfl, rfl, rfl, Nat.le_refl _, fun _ _ => rfl⟩⟩
      · have hke : k = L.length := by omega
        have hd : decide (L = M) = true := decide_eq_true (by
          have := HT.out
          rw [hke, List.take_length, HL.out, List.take_length] at this
          exact this)
        have HD := Lib.hid hd; clear hd hke
        have k1 : ¬ ((k : Int) < (L.length : Int)) := by omega
        go_wp2_with fail
        go_ret
        exact ⟨by rw [HD.out]; rfl, ⟨rfl, rfl, rfl, Nat.le_refl _, fun _ _ => rfl⟩⟩
  · have HD := Lib.hid (show decide (L = M) = false from decide_eq_false (fun h => hl (by rw [h])))
    have e1 : ((L.length : Int) == (M.length : Int)) = false := beq_eq_false_iff_ne.2 (by omega)
    clear hl
    go_enter Tryz.func85, Tryz.ntmps85
    go_wp2_with fail
    go_ret
    exact ⟨by rw [HD.out]; rfl, Below.refl _ _⟩
attribute [local go_sem] Pl.eq_place
/-- Two reports are equal in all fields. -/
def Eqr (k : Int) (nm : ByteArray) (t F A B C : Int) (L : List El.Elt.R) (k' : Int) (nm' : ByteArray) (t' F' A' B' C' : Int) (L' : List El.Elt.R) : Prop := k = k' ∧ nm = nm' ∧ t = t' ∧ (F = F' ∧ A = A' ∧ B = B' ∧ C = C') ∧ L = L'
instance (k : Int) (nm : ByteArray) (t F A B C : Int) (L : List El.Elt.R) (k' : Int) (nm' : ByteArray) (t' F' A' B' C' : Int) (L' : List El.Elt.R) : Decidable (Eqr k nm t F A B C L k' nm' t' F' A' B' C' L') := inferInstanceAs (Decidable (_ ∧ _))
set_option maxHeartbeats 4000000 in
theorem same_any (k : Int) (nm : ByteArray) (t F A B C : Int) (u : Value) (L : List El.Elt.R) (k' : Int) (nm' : ByteArray) (t' F' A' B' C' : Int) (u' : Value) (L' : List El.Elt.R) (w : World) (hL : El.RdIn w u L) (hL' : El.RdIn w u' L') :
    Calls Tryz.prog 50 #[repV k nm t F A B C u, repV k' nm' t' F' A' B' C' u'] w fun e w' => e = .returned (.bool (decide (Eqr k nm t F A B C L k' nm' t' F' A' B' C' L'))) ∧ Below w.heap.size w w' := by
  have b2 := ((Below.refl w.heap.size w).alloc (Nat.le_refl _) (.cells (repC k nm t F A B C u) 53)).alloc (by simp) (.cells (repC k' nm' t' F' A' B' C' u') 53)
  by_cases h1 : k = k'
  · by_cases h2 : nm = nm'
    · by_cases h3 : t = t'
      · by_cases h4 : F = F' ∧ A = A' ∧ B = B' ∧ C = C'
        · obtain ⟨rfl, rfl, rfl, rfl⟩ := h4
          subst h1 h2 h3
          have D := Lib.hid (show decide (Eqr k nm t F A B C L k nm t F A B C L') = decide (L = L') by rw [decide_eq_decide]; unfold Eqr; exact ⟨fun h => h.2.2.2.2, fun h => ⟨rfl, rfl, rfl, ⟨rfl, rfl, rfl, rfl⟩, h⟩⟩)
          have q : (nm.toList == nm.toList) = true := beq_self_eq_true _
          have HE := Lib.hid (eqRs_any u u' L L' _ (hL.under b2) (hL'.under b2))
          clear hL hL'
          go_enter Tryz.func50, Tryz.ntmps50
          go_wp2_with fail
          refine HE.out.mono ?_
          rintro e w3 ⟨rfl, g3⟩
          go_wp2_with fail
          go_ret
          exact ⟨ret_bool (by rw [D.out]), b2.trans (g3.mono b2.size)⟩
        · subst h1 h2 h3
          have D := Lib.hid (show decide (Eqr k nm t F A B C L k nm t F' A' B' C' L') = false from decide_eq_false (fun h => h4 h.2.2.2.1))
          have q : (nm.toList == nm.toList) = true := beq_self_eq_true _
          have H4 := Lib.hid h4
          clear hL hL' h4
          go_enter Tryz.func50, Tryz.ntmps50
          go_wp2_with fail
          all_goals first | (exfalso; exact H4.out ⟨by assumption, by assumption, by assumption, by assumption⟩) | (go_ret; exact ⟨ret_bool (by rw [D.out]), ((Below.refl _ _).alloc (Nat.le_refl _) _).alloc (by simp) _⟩)
      · have D := Lib.hid (show decide (Eqr k nm t F A B C L k' nm' t' F' A' B' C' L') = false from decide_eq_false (fun h => h3 h.2.2.1))
        have q : (nm.toList == nm'.toList) = true := toList_same h2
        have q3 : (t == t') = false := beq_eq_false_iff_ne.2 h3
        clear hL hL' h3 h2
        subst h1
        go_enter Tryz.func50, Tryz.ntmps50
        go_wp2_with fail
        go_ret
        exact ⟨ret_bool (by rw [D.out]), b2⟩
    · have D := Lib.hid (show decide (Eqr k nm t F A B C L k' nm' t' F' A' B' C' L') = false from decide_eq_false (fun h => h2 h.2.1))
      have q : (nm.toList == nm'.toList) = false := toList_ne h2
      clear hL hL' h2
      subst h1
      go_enter Tryz.func50, Tryz.ntmps50
      go_wp2_with fail
      go_ret
      exact ⟨ret_bool (by rw [D.out]), b2⟩
  · have D := Lib.hid (show decide (Eqr k nm t F A B C L k' nm' t' F' A' B' C' L') = false from decide_eq_false (fun h => h1 h.1))
    have q : (k == k') = false := beq_eq_false_iff_ne.2 h1
    clear hL hL' h1
    go_enter Tryz.func50, Tryz.ntmps50
    go_wp2_with fail
    go_ret
    exact ⟨ret_bool (by rw [D.out]), b2⟩
end Go.Proofs.YtfnlgfacadmjpaaGreatDoor
namespace Go.Proofs.YtfnlgfacadmjpaaGreatDoor
open Go.RowKit

/-- The comparison. -/
def cR2 (a b : Rp) : Int := cRep a.k a.nm a.t a.F a.A a.B a.C a.L b.k b.nm b.t b.F b.A b.B b.C b.L
theorem key_tot : Cmpr.Tot (Cmpr.lex Cmpr.num (Cmpr.lex ctx (Cmpr.lex Cmpr.num (Cmpr.lex (Cmpr.lex Cmpr.num (Cmpr.lex Cmpr.num (Cmpr.lex Cmpr.num Cmpr.num))) cRs)))) :=
  Cmpr.lex_tot Cmpr.num_tot (Cmpr.lex_tot ctx_tot (Cmpr.lex_tot Cmpr.num_tot (Cmpr.lex_tot (Cmpr.lex_tot Cmpr.num_tot (Cmpr.lex_tot Cmpr.num_tot (Cmpr.lex_tot Cmpr.num_tot Cmpr.num_tot))) cRs_tot)))
theorem cR2_key (a b : Rp) : cR2 a b = Cmpr.lex Cmpr.num (Cmpr.lex ctx (Cmpr.lex Cmpr.num (Cmpr.lex (Cmpr.lex Cmpr.num (Cmpr.lex Cmpr.num (Cmpr.lex Cmpr.num Cmpr.num))) cRs))) a.key b.key := by
  unfold cR2 cRep Cmpr.lex Rp.key
  simp only [orL, or_zero]
theorem cR2_rng (a b : Rp) : cR2 a b = -1 ∨ cR2 a b = 0 ∨ cR2 a b = 1 := by rw [cR2_key]; exact key_tot.rng _ _
theorem cR2_anti (a b : Rp) : cR2 b a = - cR2 a b := by rw [cR2_key, cR2_key]; exact key_tot.anti _ _
theorem cR2_le {a b c : Rp} (h1 : cR2 a b ≤ 0) (h2 : cR2 b c ≤ 0) : cR2 a c ≤ 0 := by rw [cR2_key] at *; exact key_tot.le h1 h2
theorem cR2_zero (a b : Rp) : decide (Eqr a.k a.nm a.t a.F a.A a.B a.C a.L b.k b.nm b.t b.F b.A b.B b.C b.L) = (cR2 a b == 0) := by
  rw [cR2_key, Bool.eq_iff_iff, decide_eq_true_iff, beq_iff_eq, key_tot.zero]
  unfold Eqr Rp.key
  simp only [Prod.mk.injEq]
end Go.Proofs.YtfnlgfacadmjpaaGreatDoor
namespace Go.Proofs.YtfnlgfacadmjpaaGreatDoor.Bu
open Go.RowKit

noncomputable instance qrDec : DecidableEq (Int × ByteArray × Int × (Int × Int × Int × Int) × List El.Elt.R) := fun _ _ => Classical.propDecidable _
theorem cRep_zero (k : Int) (nm : ByteArray) (t F A B C : Int) (L : List El.Elt.R) (k' : Int) (nm' : ByteArray) (t' F' A' B' C' : Int) (L' : List El.Elt.R) (u u' : Value) :
    (cRep k nm t F A B C L k' nm' t' F' A' B' C' L' == 0) = decide (Rp.key ⟨k, nm, t, F, A, B, C, u, L⟩ = Rp.key ⟨k', nm', t', F', A', B', C', u', L'⟩) := by
  have h := cR2_zero ⟨k, nm, t, F, A, B, C, u, L⟩ ⟨k', nm', t', F', A', B', C', u', L'⟩
  refine h.symm.trans ?_
  rw [decide_eq_decide]
  unfold Eqr Rp.key
  simp only [Prod.mk.injEq]
theorem keys_step {R R' : List Rp} {k : Nat} (h1 : k < R.length) (h2 : k < R'.length) (h : (R.take k).map Rp.key = (R'.take k).map Rp.key) (hk : R[k].key = R'[k].key) : (R.take (k + 1)).map Rp.key = (R'.take (k + 1)).map Rp.key := by
  rw [List.take_succ_eq_append_getElem h1, List.take_succ_eq_append_getElem h2, List.map_append, List.map_append, h, List.map_singleton, List.map_singleton, hk]
theorem keys_no {R R' : List Rp} {k : Nat} (h1 : k < R.length) (h2 : k < R'.length) (hk : R[k].key ≠ R'[k].key) : R.map Rp.key ≠ R'.map Rp.key := fun e => by
  have := congrArg (fun l : List _ => l[k]?) e
  simp only [List.getElem?_map, List.getElem?_eq_getElem h1, List.getElem?_eq_getElem h2, Option.map_some, Option.some.injEq] at this
  exact hk this
set_option maxRecDepth 100000 in
set_option maxHeartbeats 4000000 in
theorem sameAll_any (u v : Value) (R R' : List Rp) (w : World) (hu : RpsIn w u R) (hv : RpsIn w v R') :
    Calls Tryz.prog 27 #[u, v] w fun e w' => e = .returned (.bool (decide (R.map Rp.key = R'.map Rp.key))) ∧ Below w.heap.size w w' := by
  have HU := Lib.hid hu
  have HV := Lib.hid hv
  obtain ⟨A, cap, rfl, h1, h2, -⟩ := hu
  obtain ⟨B, cab, rfl, h3, h4, -⟩ := hv
  obtain ⟨Z, hZ⟩ : ∃ Z, decide (R.map Rp.key = R'.map Rp.key) = Z := ⟨_, rfl⟩
  rw [hZ]
  by_cases hlen : R'.length = R.length
  · have HL := Lib.hid hlen
    have HZ := Lib.hid hZ
    rw [hlen] at h3 ⊢
    clear hlen hZ
    go_enter Tryz.func27, Tryz.ntmps27
    go_wp2_with fail
    go_loopw [5] (fun t Y => ∃ k : Nat, k ≤ R.length ∧ t = .int .i64 k ∧ Hid (Below w.heap.size w Y) ∧ Hid ((R.take k).map Rp.key = (R'.take k).map Rp.key)) (fun t _ => R.length - (intOf t).toNat)
    case atStart => exact ⟨0, Nat.zero_le _, rfl, Lib.hid (Below.refl _ _), Lib.hid rfl⟩
    case round =>
      obtain ⟨k, hk, rfl, M, HT⟩ := hrel
      by_cases hlt : k < R.length
      · have k0 : (0 : Int) ≤ (k : Int) := by omega
        have k1 : (k : Int) < (R.length : Int) := by omega
        have hlt' : k < R'.length := by have := HL.out; omega
        obtain ⟨A', cap', ea, -, -, h4⟩ := (HU.out.under M.out)
        injection ea with ea el ec
        clear el
        subst ea
        subst ec
        obtain ⟨g, off, rfl, hgl, h8, hrd⟩ := h4 k hlt
        obtain ⟨B', cab', eb, -, -, h4'⟩ := (HV.out.under M.out)
        injection eb with eb el ed
        clear el
        subst eb
        subst ed
        obtain ⟨g', off', rfl, hgl', h8', hrd'⟩ := h4' k hlt'
        have HST := Lib.hid (fun hkk : R[k].key = R'[k].key => keys_step hlt hlt' HT.out hkk)
        have HNO := Lib.hid (fun hkk : R[k].key ≠ R'[k].key => keys_no hlt hlt' hkk)
        obtain ⟨rk, hrk0⟩ : ∃ rk, R[k] = rk := ⟨_, rfl⟩
        obtain ⟨rk', hrk0'⟩ : ∃ rk, R'[k] = rk := ⟨_, rfl⟩
        rw [hrk0] at h8 hrd HST HNO
        rw [hrk0'] at h8' hrd' HST HNO
        clear hrk0 hrk0' h4 h4'
        obtain ⟨kk, nm, tt, F, A0, B0, C, uu, L⟩ := rk
        obtain ⟨kk', nm', tt', F', A0', B0', C', uu', L'⟩ := rk'
        obtain ⟨Au, cu, eu, -⟩ := id hrd
        obtain ⟨Au', cu', eu', -⟩ := id hrd'
        simp only at eu eu' hrd hrd'
        subst eu; subst eu'
        have hd : Below wr.heap.size wr wr.drew := below_drewN (Below.refl _ _) 1
        have HSm := refSame_any kk nm tt F A0 B0 C (.slice Au L.length cu) L kk' nm' tt' F' A0' B0' C' (.slice Au' L'.length cu') L' wr.drew (hrd.under hd) (hrd'.under hd)
        rw [cRep_zero _ _ _ _ _ _ _ _ _ _ _ _ _ _ _ _ (.slice Au L.length cu) (.slice Au' L'.length cu')] at HSm
        obtain ⟨bz, hbz⟩ : ∃ bz, decide (Rp.key ⟨kk, nm, tt, F, A0, B0, C, .slice Au L.length cu, L⟩ = Rp.key ⟨kk', nm', tt', F', A0', B0', C', .slice Au' L'.length cu', L'⟩) = bz := ⟨_, rfl⟩
        rw [hbz] at HSm
        have HBZ := Lib.hid hbz
        have HSm := Lib.hid HSm
        have H8 := Lib.hid (⟨h8.under hgl hd, h8'.under hgl' hd, hgl, hgl'⟩ : At8 wr.drew g (off + k * 8) ⟨kk, nm, tt, F, A0, B0, C, .slice Au L.length cu, L⟩ ∧ At8 wr.drew g' (off' + k * 8) ⟨kk', nm', tt', F', A0', B0', C', .slice Au' L'.length cu', L'⟩ ∧ g < wr.drew.heap.size ∧ g' < wr.drew.heap.size)
        have M2 : Hid (Below w.heap.size w wr.drew) := Lib.hid (M.out.trans (hd.mono M.out.size))
        clear hrd hrd' hd hgl hgl' h8 h8' M hbz
        go_upto_region 6 with fail
        refine wp_region_held_drew (S := fun Y : World => (Y.cell? ⟨g, off + k * 8, none⟩ = some (.int .i64 kk) ∧ Y.cell? ⟨g, off + k * 8 + 1, none⟩ = some (.string nm) ∧ Y.cell? ⟨g, off + k * 8 + 2, none⟩ = some (.int .i64 tt) ∧ Y.cell? ⟨g, off + k * 8 + 3, none⟩ = some (.int .i64 F) ∧ Y.cell? ⟨g, off + k * 8 + 4, none⟩ = some (.int .i64 A0) ∧ Y.cell? ⟨g, off + k * 8 + 5, none⟩ = some (.int .i64 B0) ∧ Y.cell? ⟨g, off + k * 8 + 6, none⟩ = some (.int .i64 C) ∧ Y.cell? ⟨g, off + k * 8 + 7, none⟩ = some (.slice Au L.length cu)) ∧ (Y.cell? ⟨g', off' + k * 8, none⟩ = some (.int .i64 kk') ∧ Y.cell? ⟨g', off' + k * 8 + 1, none⟩ = some (.string nm') ∧ Y.cell? ⟨g', off' + k * 8 + 2, none⟩ = some (.int .i64 tt') ∧ Y.cell? ⟨g', off' + k * 8 + 3, none⟩ = some (.int .i64 F') ∧ Y.cell? ⟨g', off' + k * 8 + 4, none⟩ = some (.int .i64 A0') ∧ Y.cell? ⟨g', off' + k * 8 + 5, none⟩ = some (.int .i64 B0') ∧ Y.cell? ⟨g', off' + k * 8 + 6, none⟩ = some (.int .i64 C') ∧ Y.cell? ⟨g', off' + k * 8 + 7, none⟩ = some ((.slice Au' L'.length cu')))) (by kernel_rfl) ⟨H8.out.1, H8.out.2.1⟩ (fun hHeld => ?_)
        generalize wr.drew = X at *
        have hh := hHeld
        obtain ⟨⟨c0, c1, c2, c3, c4, c5, c6, c7⟩, d0, d1, d2, d3, d4, d5, d6, d7⟩ := hh
        refine wpAnyH_take (i := 0) (oi := ⟨some 17, _, _, _, _, none⟩) (v := ?_) rfl (by kernel_rfl) (by kernel_rfl) (by kernel_rfl) (fun _ _ _ h => h) (Or.inl ⟨by rfl, ?_⟩) (by assumption) ?_
        case refine_2 => (intro wx hSx; (try dsimp only at hSx); go_simp; first | done | with_reducible rfl)
        try simp only [Act.put, List.setIfInBounds_toArray, List.set_cons_zero, List.set_cons_succ]
        refine wpAnyH_take (i := 1) (oi := ⟨some 18, _, _, _, _, none⟩) (v := ?_) rfl (by kernel_rfl) (by kernel_rfl) (by kernel_rfl) (fun _ _ _ h => h) (Or.inl ⟨by rfl, ?_⟩) (by assumption) ?_
        case refine_2 => (intro wx hSx; (try dsimp only at hSx); go_simp; first | done | with_reducible rfl)
        try simp only [Act.put, List.setIfInBounds_toArray, List.set_cons_zero, List.set_cons_succ]
        refine wpAnyH_take (i := 2) (oi := ⟨some 19, _, _, _, _, none⟩) (v := ?_) rfl (by kernel_rfl) (by kernel_rfl) (by kernel_rfl) (fun _ _ _ h => h) (Or.inl ⟨by rfl, ?_⟩) (by assumption) ?_
        case refine_2 => (intro wx hSx; (try dsimp only at hSx); go_simp; first | done | with_reducible rfl)
        try simp only [Act.put, List.setIfInBounds_toArray, List.set_cons_zero, List.set_cons_succ]
        refine wpAnyH_take (i := 3) (oi := ⟨some 20, _, _, _, _, none⟩) (v := ?_) rfl (by kernel_rfl) (by kernel_rfl) (by kernel_rfl) (fun _ _ _ h => h) (Or.inl ⟨by rfl, ?_⟩) (by assumption) ?_
        case refine_2 => (intro wx hSx; (try dsimp only at hSx); go_simp; first | done | with_reducible rfl)
        try simp only [Act.put, List.setIfInBounds_toArray, List.set_cons_zero, List.set_cons_succ]
        refine wpAnyH_take (i := 4) (oi := ⟨some 21, _, _, _, _, none⟩) (v := ?_) rfl (by kernel_rfl) (by kernel_rfl) (by kernel_rfl) (fun _ _ _ h => h) (Or.inl ⟨by rfl, ?_⟩) (by assumption) ?_
        case refine_2 => (intro wx hSx; (try dsimp only at hSx); go_simp; first | done | with_reducible rfl)
        try simp only [Act.put, List.setIfInBounds_toArray, List.set_cons_zero, List.set_cons_succ]
        refine wpAnyH_take (i := 5) (oi := ⟨some 22, _, _, _, _, none⟩) (v := ?_) rfl (by kernel_rfl) (by kernel_rfl) (by kernel_rfl) (fun _ _ _ h => h) (Or.inl ⟨by rfl, ?_⟩) (by assumption) ?_
        case refine_2 => (intro wx hSx; (try dsimp only at hSx); go_simp; first | done | with_reducible rfl)
        try simp only [Act.put, List.setIfInBounds_toArray, List.set_cons_zero, List.set_cons_succ]
        refine wpAnyH_take (i := 6) (oi := ⟨some 23, _, _, _, _, none⟩) (v := ?_) rfl (by kernel_rfl) (by kernel_rfl) (by kernel_rfl) (fun _ _ _ h => h) (Or.inl ⟨by rfl, ?_⟩) (by assumption) ?_
        case refine_2 => (intro wx hSx; (try dsimp only at hSx); go_simp; first | done | with_reducible rfl)
        try simp only [Act.put, List.setIfInBounds_toArray, List.set_cons_zero, List.set_cons_succ]
        refine wpAnyH_take (i := 7) (oi := ⟨some 24, _, _, _, _, none⟩) (v := ?_) rfl (by kernel_rfl) (by kernel_rfl) (by kernel_rfl) (fun _ _ _ h => h) (Or.inl ⟨by rfl, ?_⟩) (by assumption) ?_
        case refine_2 => (intro wx hSx; (try dsimp only at hSx); go_simp; first | done | with_reducible rfl)
        try simp only [Act.put, List.setIfInBounds_toArray, List.set_cons_zero, List.set_cons_succ]
        refine wpAnyH_ready (rs := [8]) (by kernel_rfl) (by simp) ?_
        refine AllReadyH.cons (o := ⟨some 25, _, _, _, _, none⟩) rfl (fun Kx hK => ?_) AllReadyH.nil
        go_simp
        refine HSm.out.mono ?_
        rintro e w3 ⟨rfl, hb⟩
        have M3 : Hid (Below w.heap.size w w3) := Lib.hid (M2.out.trans (hb.mono M2.out.size))
        have S3 := (⟨H8.out.1.under H8.out.2.2.1 hb, H8.out.2.1.under H8.out.2.2.2 hb⟩ : At8 w3 g (off + k * 8) ⟨kk, nm, tt, F, A0, B0, C, .slice Au L.length cu, L⟩ ∧ At8 w3 g' (off' + k * 8) ⟨kk', nm', tt', F', A0', B0', C', .slice Au' L'.length cu', L'⟩)
        clear hb M2 H8 c0 c1 c2 c3 c4 c5 c6 c7 d0 d1 d2 d3 d4 d5 d6 d7
        go_simp
        refine hK.out _ _ S3 (fun hHeld3 => ?_)
        clear hK Kx S3
        ((try simp only [Act.put]); (try simp only [List.setIfInBounds_toArray]); (try simp only [List.set_cons_succ]); (try simp only [List.set_cons_zero]))
        refine wpAnyH_take (i := 9) (oi := ⟨some 26, _, _, _, _, none⟩) (v := ?_) rfl (by kernel_rfl) (by kernel_rfl) (by kernel_rfl) (fun _ _ _ h => h) (Or.inl ⟨by rfl, ?_⟩) (by assumption) ?_
        case refine_2 => (intro wx hSx; (try dsimp only at hSx); go_simp; first | done | with_reducible rfl)
        try simp only [Act.put, List.setIfInBounds_toArray, List.set_cons_zero, List.set_cons_succ]
        refine wpAnyH_done (by kernel_rfl) ?_ _
        clear hHeld3
        cases bz
        · go_wp2_with fail
          go_ret
          exact ⟨by rw [← HZ.out, decide_eq_false (HNO.out (of_decide_eq_false HBZ.out))]; rfl, M3.out⟩
        · go_wp2_with fail
          go_roundw
          case rel => exact ⟨k + 1, by omega, by go_num, M3, Lib.hid (HST.out (of_decide_eq_true HBZ.out))⟩
          case measure => simp [intOf]; omega
      · have k1 : ¬ (k : Int) < (R.length : Int) := by omega
        have HE := Lib.hid (show R.map Rp.key = R'.map Rp.key by
          have h := HT.out
          rwa [List.take_of_length_le (by omega), List.take_of_length_le (by have := HL.out; omega)] at h)
        go_wp2_with fail
        go_ret
        exact ⟨by rw [← HZ.out, decide_eq_true HE.out]; rfl, M.out⟩
  · have hne : ((R.length : Int) != (R'.length : Int)) = true := by rw [bne_iff_ne]; omega
    have HZ := Lib.hid (show Z = false by rw [← hZ]; exact decide_eq_false (fun e => hlen (by have := congrArg List.length e; simpa using this.symm)))
    clear hZ hlen
    go_enter Tryz.func27, Tryz.ntmps27
    go_wp2_with fail
    go_ret
    exact ⟨by rw [HZ.out]; rfl, Below.refl _ _⟩
end Go.Proofs.YtfnlgfacadmjpaaGreatDoor.Bu
namespace Go.Proofs.YtfnlgfacadmjpaaGreatDoor.Bu
open Go.RowKit

/-- Two bulletins are equal in all fields, with equal reports in the same order. -/
noncomputable def sm6 (c : ByteArray) (t cor del : Int) (R : List Rp) (c' : ByteArray) (t' cor' del' : Int) (R' : List Rp) : Bool :=
  decide (c = c') && (decide (t = t') && (decide (cor = cor') && (decide (del = del') && decide (R.map Rp.key = R'.map Rp.key))))
set_option maxRecDepth 100000 in
set_option maxHeartbeats 4000000 in
theorem refSame6_any (c : ByteArray) (t cor del : Int) (c' : ByteArray) (t' cor' del' : Int) (u v : Value) (R R' : List Rp) (w : World) (hu : RpsIn w u R) (hv : RpsIn w v R') :
    Calls Tryz.prog 20 #[bulV c t cor del u, bulV c' t' cor' del' v] w fun e w' => e = .returned (.bool (sm6 c t cor del R c' t' cor' del' R')) ∧ Below w.heap.size w w' := by
  have HU := Lib.hid hu
  have HV := Lib.hid hv
  obtain ⟨A, cap, rfl, -, -, -⟩ := hu
  obtain ⟨B, cab, rfl, -, -, -⟩ := hv
  have b1 := Bx.new w c t cor del (.slice A R.length cap)
  have b2 := b1.under ((Below.refl _ _).alloc (Nat.le_refl _) (.cells (bulC c' t' cor' del' (.slice B R'.length cab)) 24))
  have r2 : Row ((w.alloc (.cells (bulC c t cor del (.slice A R.length cap)) 24)).alloc (.cells (bulC c' t' cor' del' (.slice B R'.length cab)) 24)) (w.heap.size + 1) 24 (bulC c' t' cor' del' (.slice B R'.length cab)) := Row.newAt (by simp)
  have HJ := Lib.hid (⟨b2, r2⟩ : Bx w w.heap.size c t cor del (.slice A R.length cap) _ ∧ Row _ (w.heap.size + 1) 24 (bulC c' t' cor' del' (.slice B R'.length cab)))
  obtain ⟨Z, hZ⟩ : ∃ Z, sm6 c t cor del R c' t' cor' del' R' = Z := ⟨_, rfl⟩
  rw [hZ]
  unfold sm6 at hZ
  have HZ := Lib.hid hZ
  clear b1 b2 r2 hZ
  by_cases h1 : c = c'
  · subst h1
    have e0 : (c.toList == c.toList) = true := beq_self_eq_true _
    by_cases h2 : t = t'
    · subst h2
      by_cases h3 : cor = cor'
      · subst h3
        by_cases h4 : del = del'
        · subst h4
          go_enter Tryz.func20, Tryz.ntmps20
          go_upto_region 1 with fail
          refine forget (fun V => Hid (Bx w w.heap.size c t cor del (.slice A R.length cap) V ∧ Row V (w.heap.size + 1) 24 (bulC c t cor del (.slice B R'.length cab)))) HJ ?_
          clear HJ
          intro Y HJ
          obtain ⟨q0, q1, q2, q3, q4⟩ := row5 HJ.out.1.1
          obtain ⟨p0, p1, p2, p3, p4⟩ := row5 HJ.out.2
          have HS := Lib.hid (sameAll_any _ _ R R' Y (HU.out.under HJ.out.1.2) (HV.out.under HJ.out.1.2))
          have HB := Lib.hid HJ.out.1.2
          clear HJ
          go_wp2_with fail
          refine HS.out.mono ?_
          rintro e w2 ⟨rfl, hb⟩
          have HF := Lib.hid (HB.out.trans (hb.mono HB.out.size))
          have D := Lib.hid (HZ.out.symm.trans (by simp : _ = decide (R.map Rp.key = R'.map Rp.key)))
          clear hb q0 q1 q2 q3 q4 p0 p1 p2 p3 p4 HS HZ
          go_wp2_with fail
          go_ret
          exact ⟨by rw [D.out]; rfl, HF.out⟩
        · have q4' : (del == del') = false := beq_eq_false_iff_ne.2 h4
          have D := Lib.hid (HZ.out.symm.trans (by rw [decide_eq_false h4]; simp : _ = false))
          clear HZ
          go_enter Tryz.func20, Tryz.ntmps20
          go_upto_region 1 with fail
          refine forget (fun V => Hid (Bx w w.heap.size c t cor del (.slice A R.length cap) V ∧ Row V (w.heap.size + 1) 24 (bulC c t cor del' (.slice B R'.length cab)))) HJ ?_
          clear HJ
          intro Y HJ
          obtain ⟨q0, q1, q2, q3, q4⟩ := row5 HJ.out.1.1
          obtain ⟨p0, p1, p2, p3, p4⟩ := row5 HJ.out.2
          have HB := Lib.hid HJ.out.1.2
          clear HJ
          go_wp2_with fail
          go_ret
          exact ⟨by rw [D.out]; rfl, HB.out⟩
      · have q4' : (cor == cor') = false := beq_eq_false_iff_ne.2 h3
        have D := Lib.hid (HZ.out.symm.trans (by rw [decide_eq_false h3]; simp : _ = false))
        clear HZ
        go_enter Tryz.func20, Tryz.ntmps20
        go_upto_region 1 with fail
        refine forget (fun V => Hid (Bx w w.heap.size c t cor del (.slice A R.length cap) V ∧ Row V (w.heap.size + 1) 24 (bulC c t cor' del' (.slice B R'.length cab)))) HJ ?_
        clear HJ
        intro Y HJ
        obtain ⟨q0, q1, q2, q3, q4⟩ := row5 HJ.out.1.1
        obtain ⟨p0, p1, p2, p3, p4⟩ := row5 HJ.out.2
        have HB := Lib.hid HJ.out.1.2
        clear HJ
        go_wp2_with fail
        go_ret
        exact ⟨by rw [D.out]; rfl, HB.out⟩
    · have q4' : (t == t') = false := beq_eq_false_iff_ne.2 h2
      have D := Lib.hid (HZ.out.symm.trans (by rw [decide_eq_false h2]; simp : _ = false))
      clear HZ
      go_enter Tryz.func20, Tryz.ntmps20
      go_upto_region 1 with fail
      refine forget (fun V => Hid (Bx w w.heap.size c t cor del (.slice A R.length cap) V ∧ Row V (w.heap.size + 1) 24 (bulC c t' cor' del' (.slice B R'.length cab)))) HJ ?_
      clear HJ
      intro Y HJ
      obtain ⟨q0, q1, q2, q3, q4⟩ := row5 HJ.out.1.1
      obtain ⟨p0, p1, p2, p3, p4⟩ := row5 HJ.out.2
      have HB := Lib.hid HJ.out.1.2
      clear HJ
      go_wp2_with fail
      go_ret
      exact ⟨by rw [D.out]; rfl, HB.out⟩
  · have q4' : (c.toList == c'.toList) = false := toList_ne h1
    have D := Lib.hid (HZ.out.symm.trans (by rw [decide_eq_false h1]; simp : _ = false))
    clear HZ
    go_enter Tryz.func20, Tryz.ntmps20
    go_upto_region 1 with fail
    refine forget (fun V => Hid (Bx w w.heap.size c t cor del (.slice A R.length cap) V ∧ Row V (w.heap.size + 1) 24 (bulC c' t' cor' del' (.slice B R'.length cab)))) HJ ?_
    clear HJ
    intro Y HJ
    obtain ⟨q0, q1, q2, q3, q4⟩ := row5 HJ.out.1.1
    obtain ⟨p0, p1, p2, p3, p4⟩ := row5 HJ.out.2
    have HB := Lib.hid HJ.out.1.2
    clear HJ
    go_wp2_with fail
    go_ret
    exact ⟨by rw [D.out]; rfl, HB.out⟩
end Go.Proofs.YtfnlgfacadmjpaaGreatDoor.Bu
