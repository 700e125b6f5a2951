/- The program's validate: limits, readings, times, repeated reports. -/
import Derived.Test.YtlakgkoohdfiaaaDoorTmK
import Derived.Test.YtlakgkoohdfiaaaDoorQal
namespace Go.Proofs.YtlakgkoohdfiaaaDoor.Tm
open Go.RowKit Go.Maps

/-- A limit that is none. -/
def badL (x : Int) : Bool := decide (x < 0) || decide (10000 < x)
theorem imp_any (x : Int) (w : World) : Calls Tryd.prog 105 #[.int .i64 x] w fun e w' => e = .returned (.bool (badL x)) ∧ w' = w := by
  by_cases h1 : x < 0
  · have HE : Hid (badL x = true) := Lib.hid (by unfold badL; simp [h1])
    go_enter Tryd.func105, Tryd.ntmps105
    go_wp2_with fail
    go_ret
    exact ⟨ret_bool HE.out.symm, rfl⟩
  · by_cases h2 : 10000 < x
    · have HE : Hid (badL x = true) := Lib.hid (by unfold badL; simp [h2])
      go_enter Tryd.func105, Tryd.ntmps105
      go_wp2_with fail
      go_ret
      exact ⟨ret_bool HE.out.symm, rfl⟩
    · have HE : Hid (badL x = false) := Lib.hid (by unfold badL; simp [h1, h2])
      go_enter Tryd.func105, Tryd.ntmps105
      go_wp2_with fail
      go_ret
      exact ⟨ret_bool HE.out.symm, rfl⟩
/-- Whether one of twelve limits is none. -/
def bad12 (f : Nat → Int) : Bool := (List.range 12).any fun j => badL (f j)
theorem bad12_false {f : Nat → Int} (h : ∀ j, j < 12 → badL (f j) = false) : bad12 f = false := by
  unfold bad12
  rw [List.any_eq_false]
  intro j hj
  rw [h j (List.mem_range.1 hj)]; decide
theorem bad12_true {f : Nat → Int} {j : Nat} (hj : j < 12) (h : badL (f j) = true) : bad12 f = true := by
  unfold bad12
  rw [List.any_eq_true]
  exact ⟨j, List.mem_range.2 hj, h⟩
/-- What the search leaves. -/
def IdO (f : Nat → Int) (w : World) (e : Ending) (w' : World) : Prop := (∃ z : Int, e = .returned (.int .i64 z) ∧ (0 ≤ z ↔ bad12 f = true)) ∧ w' = w
set_option maxHeartbeats 1000000 in
theorem idxI_any (g off : Nat) (f : Nat → Int) (w : World) (hc : ∀ j, j < 12 → w.cell? ⟨g, off + j, none⟩ = some (.int .i64 (f j))) :
    Calls Tryd.prog 124 #[.slice (some ⟨g, off, none⟩) 12 12, .func (.func 105) #[] #[]] w (IdO f w) := by
  have HC := Lib.hid hc; clear hc
  go_enter Tryd.func124, Tryd.ntmps124
  go_wp2_with fail
  go_loopw [8] (fun t wr => ∃ k : Nat, k ≤ 12 ∧ t = .int .i64 (k : Int) ∧ wr = w ∧ Hid (∀ j, j < k → badL (f j) = false)) (fun t _ => 12 - (intOf t).toNat)
  case atStart => exact ⟨0, by omega, rfl, rfl, Lib.hid (fun j hj => by omega)⟩
  case round =>
    obtain ⟨k, hk, rfl, rfl, HZ⟩ := hrel
    by_cases hlt : k < 12
    · have k1 : (k : Int) < 12 := by omega
      have k2 : (0 : Int) ≤ (k : Int) := by omega
      have c0 := HC.out k hlt
      have HI := Lib.hid (imp_any (f k))
      obtain ⟨z, hz⟩ : ∃ z, badL (f k) = z := ⟨_, rfl⟩
      rw [hz] at HI
      have HB := Lib.hid hz; clear hz
      go_wp2_with fail
      refine (HI.out _).mono ?_
      rintro e w1 ⟨rfl, rfl⟩
      cases z with
      | true =>
        have HT := Lib.hid (bad12_true hlt HB.out)
        go_wp2_with fail
        go_ret
        exact ⟨⟨_, rfl, fun _ => HT.out, fun _ => by omega⟩, rfl⟩
      | false =>
        have HN : Hid (∀ j, j < k + 1 → badL (f j) = false) := Lib.hid (fun j hj => by
          rcases (by omega : j < k ∨ j = k) with q | rfl
          · exact HZ.out j q
          · exact HB.out)
        go_wp2_with fail
        go_roundw
        case rel => exact ⟨k + 1, by omega, by go_num, trivial, HN⟩
        case measure => simp [intOf]; omega
    · obtain rfl : k = 12 := by omega
      have HF := Lib.hid (bad12_false HZ.out)
      go_wp2_with fail
      go_ret
      exact ⟨⟨_, rfl, fun h => by omega, fun h => by rw [HF.out] at h; cases h⟩, rfl⟩
set_option maxHeartbeats 1000000 in
theorem conI_any (g off : Nat) (f : Nat → Int) (w : World) (hc : ∀ j, j < 12 → w.cell? ⟨g, off + j, none⟩ = some (.int .i64 (f j))) :
    Calls Tryd.prog 106 #[.slice (some ⟨g, off, none⟩) 12 12, .func (.func 105) #[] #[]] w fun e w' => e = .returned (.bool (bad12 f)) ∧ w' = w := by
  have HI := Lib.hid (idxI_any g off f w hc); clear hc
  go_enter Tryd.func106, Tryd.ntmps106
  go_wp2_with fail
  refine HI.out.mono ?_
  rintro e w1 ⟨⟨z, rfl, hz⟩, rfl⟩
  have HZ : Hid (decide (0 ≤ z) = bad12 f) := Lib.hid (by rw [Bool.eq_iff_iff, decide_eq_true_iff]; exact hz)
  clear hz
  go_wp2_with fail
  go_ret
  exact ⟨ret_bool HZ.out, rfl⟩
/-- Two of the first k reports have the same name and time. -/
def DupK (Q : List Rp) (k : Nat) : Prop := ∃ i j, ∃ hi : i < Q.length, ∃ hj : j < Q.length, i < j ∧ j < k ∧ Q[i].nm = Q[j].nm ∧ Q[i].t = Q[j].t
theorem dis_of {Q : List Rp} (h : ¬ DupK Q Q.length) : Dis Q := fun i j hi hj hne ⟨e1, e2⟩ => by
  rcases Nat.lt_or_gt_of_ne hne with q | q
  · exact h ⟨i, j, hi, hj, q, hj, e1, e2⟩
  · exact h ⟨j, i, hj, hi, q, hi, e1.symm, e2.symm⟩
/-- The key of the first k reports. -/
def KeyK (Q : List Rp) (k : Nat) (key : Ke) : Prop := ∃ j, ∃ hj : j < Q.length, j < k ∧ (Q[j].nm, Q[j].t) = key
theorem keyK_succ {Q : List Rp} {k : Nat} (h : k < Q.length) (key : Ke) : KeyK Q (k + 1) key ↔ KeyK Q k key ∨ (Q[k].nm, Q[k].t) = key := by
  constructor
  · rintro ⟨j, hj, h1, e⟩
    rcases (by omega : j < k ∨ j = k) with q | rfl
    · exact .inl ⟨j, hj, q, e⟩
    · exact .inr e
  · rintro (⟨j, hj, h1, e⟩ | e)
    · exact ⟨j, hj, by omega, e⟩
    · exact ⟨k, h, by omega, e⟩
theorem dupK_yes {Q : List Rp} {k : Nat} (h : k < Q.length) (hk : KeyK Q k (Q[k].nm, Q[k].t)) : DupK Q Q.length := by
  obtain ⟨j, hj, h1, e⟩ := hk
  injection e with e1 e2
  exact ⟨j, k, hj, h, h1, h, e1, e2⟩
theorem dupK_no {Q : List Rp} {k : Nat} (h : k < Q.length) (hd : ¬ DupK Q k) (hk : ¬ KeyK Q k (Q[k].nm, Q[k].t)) : ¬ DupK Q (k + 1) := by
  rintro ⟨i, j, hi, hj, h1, h2, e1, e2⟩
  rcases (by omega : j < k ∨ j = k) with q | rfl
  · exact hd ⟨i, j, hi, hj, h1, q, e1, e2⟩
  · exact hk ⟨i, hi, h1, by rw [e1, e2]⟩
open Classical in
/-- Block b is the map of the keys of the first k reports. -/
def Mk1 (Y : World) (b k : Nat) (Q : List Rp) : Prop := ∃ f, Mo.Ms Y b k f ∧ ∀ key, (f key).getD (.bool false) = .bool (decide (KeyK Q k key))
/-- What repeated knows in its loop. -/
structure Rpt1 (w : World) (b k : Nat) (Q : List Rp) (Y : World) : Prop where
  below : Below w.heap.size w Y
  map : Mk1 Y b k Q
  hb : w.heap.size ≤ b
theorem Rpt1.under {w Y Y' : World} {b k : Nat} {Q : List Rp} (h : Rpt1 w b k Q Y) (hb : Below Y.heap.size Y Y') : Rpt1 w b k Q Y' := by
  obtain ⟨f, hf, hv⟩ := h.map
  exact ⟨h.below.trans (hb.mono h.below.size), ⟨f, hf.kept (row := none) (grown_below hb) (by simp), hv⟩, h.hb⟩
open Classical in
theorem Rpt1.look {w Y : World} {b k : Nat} {Q : List Rp} (h : Rpt1 w b k Q Y) {key : Ke} (hk : KeOk key) : (Instr.lookup 177 (.map (some b)) (keV key) false).run Tryd.prog Y = .ok (.bool (decide (KeyK Q k key))) Y := by
  obtain ⟨f, hf, hv⟩ := h.map
  rw [hf.look Tryd.underlying177 (Tryd.zeroValue4 Y) hk, hv]
open Classical in
theorem Rpt1.put {w Y : World} {b k : Nat} {Q : List Rp} (h : Rpt1 w b k Q Y) (hlt : k < Q.length) (hl : Q.length ≤ 100000) (hk : KeOk (Q[k].nm, Q[k].t)) : ∃ Y', (Instr.mapUpdate 177 (.map (some b)) (keV (Q[k].nm, Q[k].t)) (.bool true)).run Tryd.prog Y = .ok () Y' ∧ Rpt1 w b (k + 1) Q Y' := by
  obtain ⟨f, hf, hv⟩ := h.map
  obtain ⟨Y', hr, hm, hg⟩ := hf.update Tryd.underlying177 (by unfold maxLen; omega) hk (.bool true)
  refine ⟨Y', hr, ⟨h.below.grown hg h.below.size (fun i e => by injection e with e; have := h.hb; omega), ⟨_, hm, fun key => ?_⟩, h.hb⟩⟩
  by_cases e : key = (Q[k].nm, Q[k].t)
  · rw [if_pos e]
    have : KeyK Q (k + 1) key := (keyK_succ hlt key).2 (.inr e.symm)
    simp [this]
  · rw [if_neg e, hv]
    have : KeyK Q (k + 1) key ↔ KeyK Q k key := (keyK_succ hlt key).trans ⟨fun h => h.resolve_right (fun q => e q.symm), .inl⟩
    simp [this]
theorem i64_min {t : Int} (h : 0 ≤ t ∧ t ≤ 52595999) : I64 t := ⟨by omega, by omega⟩
open Classical in
/-- What repeated leaves. -/
def RpO (Q : List Rp) (w : World) (e : Ending) (w' : World) : Prop := e = .returned (.bool (decide (DupK Q Q.length))) ∧ Below w.heap.size w w'
open Classical in
set_option maxRecDepth 100000 in
set_option maxHeartbeats 2000000 in
theorem repeated_any (v : Value) (Q : List Rp) (w : World) (hv : RpsIn w v Q) (hl : Q.length ≤ 100000) (hn : ∀ r ∈ Q, r.nm.size ≤ 40) (ht : ∀ r ∈ Q, 0 ≤ r.t ∧ r.t ≤ 52595999) :
    Calls Tryd.prog 107 #[v] w (RpO Q w) := by
  have HN := Lib.hid hn; clear hn
  have HT := Lib.hid ht; clear ht
  have hmm := @run_makeMap Tryd.prog
  have b1 := (Below.refl w.heap.size w).alloc (Nat.le_refl _) (.map #[] 0)
  have I0 : Hid (Rpt1 w w.heap.size 0 Q (w.alloc (.map #[] 0))) := Lib.hid ⟨b1, ⟨_, Mo.Ms.made w, fun key => by
    have : ¬ KeyK Q 0 key := fun ⟨j, _, h, _⟩ => by omega
    simp [this]⟩, Nat.le_refl _⟩
  clear b1
  obtain ⟨A, cap, rfl, h1, h2, -⟩ := id hv
  have HV := Lib.hid hv; clear hv
  go_enter Tryd.func107, Tryd.ntmps107
  go_upto_region 2 with fail
  refine forget (fun Y => Hid (Rpt1 w w.heap.size 0 Q Y)) I0 ?_
  clear I0 hmm
  obtain ⟨b, hb⟩ : ∃ g, w.heap.size = g := ⟨_, rfl⟩
  rw [hb]
  clear hb
  rintro Y I0
  go_wp2_with fail
  go_loopw [10] (fun t wr => ∃ k : Nat, k ≤ Q.length ∧ t = .int .i64 (k : Int) ∧ Hid (Rpt1 w b k Q wr) ∧ Hid (¬ DupK Q k)) (fun t _ => Q.length - (intOf t).toNat)
  case atStart => exact ⟨0, Nat.zero_le _, rfl, I0, Lib.hid (fun ⟨i, j, _, _, h1, h2, _⟩ => by omega)⟩
  case round =>
    clear I0
    obtain ⟨k, hk, rfl, H1, HD⟩ := hrel
    by_cases hlt : k < Q.length
    · obtain ⟨A', cap', e, -, -, hat⟩ := HV.out.under H1.out.below
      injection e with e1 e2 e3
      subst e1
      obtain ⟨g, off, hAq, hgl, ⟨c0, c1, c2, c3, c4, c5, c6, c7⟩, hrd⟩ := hat k hlt
      subst hAq
      have k1 : (k : Int) < (Q.length : Int) := by omega
      have k2 : (0 : Int) ≤ (k : Int) := by omega
      have hok : KeOk (Q[k].nm, Q[k].t) := ⟨Nat.le_trans (HN.out _ (List.getElem_mem hlt)) (by decide), i64_min (HT.out _ (List.getElem_mem hlt))⟩
      have HOK := Lib.hid hok; clear hok
      have HYes := Lib.hid (fun h => dupK_yes hlt h)
      have HNo := Lib.hid (fun h => dupK_no hlt HD.out h)
      have HPut := Lib.hid (fun Y (h : Rpt1 w b k Q Y) => h.put hlt hl HOK.out)
      clear hat e3 hgl e2
      obtain ⟨r, hr⟩ : ∃ r, Q[k] = r := ⟨_, rfl⟩
      rw [hr] at c0 c1 c2 c3 c4 c5 c6 c7 HOK HYes HNo HPut hrd
      clear hr
      obtain ⟨rk, rn, rt, rF, rA, rB, rC, ru, rL⟩ := r
      simp only at c0 c1 c2 c3 c4 c5 c6 c7 HOK HYes HNo HPut hrd
      obtain ⟨Au, cu, eu, -⟩ := id hrd
      have eu' : ru = .slice Au rL.length cu := eu
      subst eu'
      clear hrd eu
      have b1 := ((Below.refl wr.heap.size wr).alloc (Nat.le_refl _) (.cells (repC rk rn rt rF rA rB rC (.slice Au rL.length cu)) 38)).alloc (by simp) (.cells #[.string rn, .int .i64 rt] 179)
      have H2 : Hid (Rpt1 w b k Q ((wr.alloc (.cells (repC rk rn rt rF rA rB rC (.slice Au rL.length cu)) 38)).alloc (.cells #[.string rn, .int .i64 rt] 179)) ∧ Row ((wr.alloc (.cells (repC rk rn rt rF rA rB rC (.slice Au rL.length cu)) 38)).alloc (.cells #[.string rn, .int .i64 rt] 179)) (wr.heap.size + 1) 179 #[.string rn, .int .i64 rt]) := Lib.hid ⟨H1.out.under b1, Row.newAt (by simp)⟩
      clear b1 H1
      go_upto_region 6 with fail
      refine forget (fun Y => Hid (Rpt1 w b k Q Y ∧ Row Y (wr.heap.size + 1) 179 #[.string rn, .int .i64 rt])) H2 ?_
      clear H2 c0 c1 c2 c3 c4 c5 c6 c7
      generalize wr.heap.size + 1 = gm at *
      rintro Y2 H2
      obtain ⟨p0, p1⟩ := row2 H2.out.2
      have hlk := H2.out.1.look HOK.out
      unfold keV at hlk
      dsimp only at hlk
      by_cases hq : KeyK Q k (rn, rt)
      · rw [decide_eq_true hq] at hlk
        have HE : Hid (RpO Q w (.returned (.bool true)) Y2) := Lib.hid ⟨by rw [decide_eq_true (HYes.out hq)], H2.out.1.below⟩
        clear H2
        go_wp2_with fail
        go_ret
        exact HE.out
      · rw [decide_eq_false hq] at hlk
        obtain ⟨Y3, hup, h3⟩ := HPut.out _ H2.out.1
        have H3 := Lib.hid h3
        have HND := Lib.hid (HNo.out hq)
        unfold keV at hup
        dsimp only at hup
        clear h3 H2
        go_wp2_with fail
        go_roundw
        case rel => exact ⟨k + 1, by omega, by go_num, H3, HND⟩
        case measure => simp [intOf]; omega
    · obtain rfl : k = Q.length := by omega
      have k1 : ¬ (Q.length : Int) < (Q.length : Int) := by omega
      have HE : Hid (RpO Q w (.returned (.bool false)) wr) := Lib.hid ⟨by rw [decide_eq_false HD.out], H1.out.below⟩
      clear H1 HD
      go_wp2_with fail
      go_ret
      exact HE.out
end Go.Proofs.YtlakgkoohdfiaaaDoor.Tm
