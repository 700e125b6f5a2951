/- Texts of this proof. -/
import Derived.Test.YtlakgkoohdfiaaaDoorTmF
import Derived.Test.YtlakgkoohdfiaaaDoorQaj
import Derived.Test.YtlakgkoohdfiaaaDoorTmN
import Derived.Test.YtlakgkoohdfiaaaDoorTmE
import Derived.Test.YtlakgkoohdfiaaaDoorTmB
namespace Go.Proofs.YtlakgkoohdfiaaaDoor.Tm
open Go.RowKit Go.Maps

/-- The cells of a control: its limits for steps and spikes. -/
structure Ct (cs : Array Value) (S P : Int → Int) : Prop where
  size : cs.size = 41
  s : ∀ j : Nat, j < 12 → cs[1 + j]? = some (.int .i64 (S j))
  p : ∀ j : Nat, j < 12 → cs[13 + j]? = some (.int .i64 (P j))
/-- The first error of readings. -/
noncomputable def fstV : List Rp → Int
  | [] => 0
  | r :: Q => if El.Elt.vld r.L ≠ 0 then El.Elt.vld r.L else fstV Q
theorem fstV_at : ∀ (Q : List Rp) (k : Nat) (h : k < Q.length), (∀ j (hj : j < Q.length), j < k → El.Elt.vld Q[j].L = 0) → El.Elt.vld Q[k].L ≠ 0 → fstV Q = El.Elt.vld Q[k].L
  | r :: Q, 0, _, _, h => by unfold fstV; rw [if_pos (by exact h)]; rfl
  | r :: Q, k + 1, hk, hz, h => by
    unfold fstV
    have h0 : El.Elt.vld r.L = 0 := hz 0 (by simp) (by omega)
    rw [if_neg (by simp [h0])]
    exact fstV_at Q k (by simpa using hk) (fun j hj hjk => hz (j + 1) (by simpa using hj) (by omega)) h
theorem fstV_no : ∀ (Q : List Rp), (∀ r ∈ Q, El.Elt.vld r.L = 0) → fstV Q = 0
  | [], _ => rfl
  | r :: Q, h => by
    unfold fstV
    rw [if_neg (by simp [h r (by simp)])]
    exact fstV_no Q fun q hq => h q (by simp [hq])
open Classical in
/-- The error of a check: limits, readings, times, repeated reports. -/
noncomputable def erT (Q : List Rp) (S P : Int → Int) : Int :=
  if bad12 (fun j => S j) = true ∨ bad12 (fun j => P j) = true then 1 else if fstV Q ≠ 0 then fstV Q else if ∃ r ∈ Q, r.t < 0 ∨ 52595999 < r.t then 1 else if DupK Q Q.length then 5 else 0
open Classical in
set_option maxRecDepth 100000 in
set_option maxHeartbeats 2000000 in
theorem validate_any (v : Value) (Q : List Rp) (cs : Array Value) (S P : Int → Int) (w : World) (hv : RpsIn w v Q) (hk : Ct cs S P) (hE : El.Tab w) (hl : Q.length ≤ 100000) (hn : ∀ r ∈ Q, r.nm.size ≤ 40) :
    Calls Tryd.prog 78 #[v, .agg cs] w fun e w' => e = .returned (.int .i64 (erT Q S P)) ∧ Below w.heap.size w w' := by
  have HN := Lib.hid hn; clear hn
  have HE := Lib.hid hE; clear hE
  obtain ⟨A, cap, rfl, h1, h2, -⟩ := id hv
  have HV := Lib.hid hv; clear hv
  have b1 := (Below.refl w.heap.size w).alloc (Nat.le_refl _) (.cells cs 67)
  have I0 : Hid (Below w.heap.size w (w.alloc (.cells cs 67)) ∧ Row (w.alloc (.cells cs 67)) w.heap.size 67 cs) := Lib.hid ⟨b1, Row.new _ _ _⟩
  clear b1
  have HK := Lib.hid hk; clear hk
  go_enter Tryd.func78, Tryd.ntmps78
  go_upto_region 2 with fail
  refine forget (fun Y => Hid (Below w.heap.size w Y ∧ Row Y w.heap.size 67 cs)) I0 ?_
  clear I0
  obtain ⟨gk, hgk⟩ : ∃ g, w.heap.size = g := ⟨_, rfl⟩
  have HGK := Lib.hid hgk
  rw [hgk]
  clear hgk
  rintro Y HY
  have HCs := Lib.hid (conI_any gk 1 (fun j => S j) Y (fun j hj => (HY.out.2.cell (1 + j)).trans (HK.out.s j hj)))
  have HCp := Lib.hid (conI_any gk 13 (fun j => P j) Y (fun j hj => (HY.out.2.cell (13 + j)).trans (HK.out.p j hj)))
  have HB := Lib.hid (HGK.out ▸ HY.out.1)
  clear HY HK
  have HER : Hid (erT Q S P = if bad12 (fun j => S j) = true ∨ bad12 (fun j => P j) = true then 1 else if fstV Q ≠ 0 then fstV Q else if ∃ r ∈ Q, r.t < 0 ∨ 52595999 < r.t then 1 else if DupK Q Q.length then 5 else 0) := Lib.hid rfl
  generalize bad12 (fun j => S j) = z1 at *
  generalize bad12 (fun j => P j) = z2 at *
  go_wp2_with fail
  refine HCs.out.mono ?_
  rintro e w1 ⟨rfl, rfl⟩
  cases z1 with
  | true =>
    have HF : Hid (erT Q S P = 1) := Lib.hid (by rw [HER.out, if_pos (.inl rfl)])
    clear HER
    go_wp2_with fail
    go_ret
    exact ⟨ret_i64 HF.out.symm, HB.out⟩
  | false =>
    go_wp2_with fail
    refine HCp.out.mono ?_
    rintro e w1 ⟨rfl, rfl⟩
    cases z2 with
    | true =>
      have HF : Hid (erT Q S P = 1) := Lib.hid (by rw [HER.out, if_pos (.inr rfl)])
      clear HER
      go_wp2_with fail
      go_ret
      exact ⟨ret_i64 HF.out.symm, HB.out⟩
    | false =>
      have HEq : Hid (erT Q S P = if fstV Q ≠ 0 then fstV Q else if ∃ r ∈ Q, r.t < 0 ∨ 52595999 < r.t then 1 else if DupK Q Q.length then 5 else 0) := Lib.hid (by rw [HER.out, if_neg (by simp)])
      clear HER HCs HCp
      have BB0 := HB
      clear HB
      go_wp2_with fail
      go_loopw [23] (fun t wr => ∃ k : Nat, k ≤ Q.length ∧ t = .int .i64 (k : Int) ∧ Hid (Below w.heap.size w wr) ∧ Hid (∀ j (hj : j < Q.length), j < k → El.Elt.vld Q[j].L = 0)) (fun t _ => Q.length - (intOf t).toNat)
      case atStart => exact ⟨0, Nat.zero_le _, rfl, BB0, Lib.hid (fun j _ h => by omega)⟩
      case round =>
        clear BB0
        obtain ⟨k, hk, rfl, BB, HZ⟩ := hrel
        by_cases hlt : k < Q.length
        · obtain ⟨A', cap', e, -, -, hat⟩ := HV.out.under BB.out
          injection e with e1 e2 e3
          subst e1
          obtain ⟨g, off, hAq, hgl, ⟨c0, c1, c2, c3, c4, c5, c6, c7⟩, hrd⟩ := hat k hlt
          subst hAq
          have k1 : (k : Int) < (Q.length : Int) := by omega
          have k2 : (0 : Int) ≤ (k : Int) := by omega
          clear hat e3 hgl e2
          have HF1 := Lib.hid (fun h => fstV_at Q k hlt HZ.out h)
          have HZ2 : Hid (El.Elt.vld Q[k].L = 0 → ∀ j (hj : j < Q.length), j < k + 1 → El.Elt.vld Q[j].L = 0) := Lib.hid (fun h j hj hjk => by
            rcases (by omega : j < k ∨ j = k) with q | rfl
            · exact HZ.out j hj q
            · exact h)
          obtain ⟨r, hr⟩ : ∃ r, Q[k] = r := ⟨_, rfl⟩
          rw [hr] at c0 c1 c2 c3 c4 c5 c6 c7 hrd HF1 HZ2
          clear hr
          obtain ⟨rk, rn, rt, rF, rA, rB, rC, ru, rL⟩ := r
          simp only at c0 c1 c2 c3 c4 c5 c6 c7 hrd HF1 HZ2
          obtain ⟨Au, cu, eu, -⟩ := id hrd
          have eu' : ru = .slice Au rL.length cu := eu
          subst eu'
          clear eu
          have b1 := (Below.refl wr.heap.size wr).alloc (Nat.le_refl _) (.cells (repC rk rn rt rF rA rB rC (.slice Au rL.length cu)) 38)
          have H2 : Hid (Below w.heap.size w (wr.alloc (.cells (repC rk rn rt rF rA rB rC (.slice Au rL.length cu)) 38)) ∧ Row (wr.alloc (.cells (repC rk rn rt rF rA rB rC (.slice Au rL.length cu)) 38)) wr.heap.size 38 (repC rk rn rt rF rA rB rC (.slice Au rL.length cu)) ∧ El.RdIn (wr.alloc (.cells (repC rk rn rt rF rA rB rC (.slice Au rL.length cu)) 38)) (.slice Au rL.length cu) rL) := Lib.hid ⟨BB.out.alloc BB.out.size _, Row.new _ _ _, hrd.under b1⟩
          clear b1 hrd BB
          go_upto_region 7 with fail
          refine forget (fun Y => Hid (Below w.heap.size w Y ∧ Row Y wr.heap.size 38 (repC rk rn rt rF rA rB rC (.slice Au rL.length cu)) ∧ El.RdIn Y (.slice Au rL.length cu) rL)) H2 ?_
          clear H2 c0 c1 c2 c3 c4 c5 c6 c7
          generalize wr.heap.size = gr at *
          rintro Y2 H2
          obtain ⟨q0, q1, q2, q3, q4, q5, q6, q7⟩ := row8 H2.out.2.1
          have HVa := Lib.hid (El.validate_any _ rL Y2 H2.out.2.2 (HE.out.under H2.out.1))
          obtain ⟨z, hz⟩ : ∃ z, El.Elt.vld rL = z := ⟨_, rfl⟩
          rw [hz] at HVa HF1 HZ2
          clear hz
          go_wp2_with fail
          refine HVa.out.mono ?_
          rintro e Y3 ⟨rfl, g3⟩
          have H3 := Lib.hid (H2.out.1.trans (g3.mono H2.out.1.size))
          clear g3 H2 HVa q0 q1 q2 q3 q4 q5 q6 q7
          by_cases hz0 : z = 0
          · subst hz0
            have HZ3 := Lib.hid (HZ2.out rfl)
            go_wp2_with fail
            go_roundw
            case rel => exact ⟨k + 1, by omega, by go_num, H3, HZ3⟩
            case measure => simp [intOf]; omega
          · have kz : (z != 0) = true := bne_iff_ne.2 hz0
            have HF : Hid (erT Q S P = z) := Lib.hid (by rw [HEq.out, if_pos (by rw [HF1.out hz0]; exact hz0), HF1.out hz0])
            go_wp2_with fail
            go_ret
            exact ⟨ret_i64 HF.out.symm, H3.out⟩
        · obtain rfl : k = Q.length := by omega
          have k1 : ¬ (Q.length : Int) < (Q.length : Int) := by omega
          have HEr2 : Hid (erT Q S P = if ∃ r ∈ Q, r.t < 0 ∨ 52595999 < r.t then 1 else if DupK Q Q.length then 5 else 0) := Lib.hid (by
            have h0 := fstV_no Q fun r hr => by
              obtain ⟨j, hj, rfl⟩ := List.getElem_of_mem hr
              exact HZ.out j hj hj
            rw [HEq.out, if_neg (by simp [h0])])
          clear HEq HZ
          go_wp2_with fail
          go_loopw [36] (fun t wr => ∃ k : Nat, k ≤ Q.length ∧ t = .int .i64 (k : Int) ∧ Hid (Below w.heap.size w wr) ∧ Hid (∀ j (hj : j < Q.length), j < k → 0 ≤ Q[j].t ∧ Q[j].t ≤ 52595999)) (fun t _ => Q.length - (intOf t).toNat)
          case atStart => exact ⟨0, Nat.zero_le _, rfl, BB, Lib.hid (fun j _ h => by omega)⟩
          case round =>
            clear BB
            obtain ⟨k, hk, rfl, BB, HZ⟩ := hrel
            by_cases hlt : k < Q.length
            · obtain ⟨A', cap', e, -, -, hat⟩ := HV.out.under BB.out
              injection e with e1 e2 e3
              subst e1
              obtain ⟨g, off, hAq, hgl, ⟨c0, c1, c2, c3, c4, c5, c6, c7⟩, hrd⟩ := hat k hlt
              subst hAq
              have k1 : (k : Int) < (Q.length : Int) := by omega
              have k2 : (0 : Int) ≤ (k : Int) := by omega
              clear hat e3 hgl e2
              have HF1 : Hid (Q[k].t < 0 ∨ 52595999 < Q[k].t → ∃ r ∈ Q, r.t < 0 ∨ 52595999 < r.t) := Lib.hid (fun h => ⟨_, List.getElem_mem hlt, h⟩)
              have HZ2 : Hid (0 ≤ Q[k].t ∧ Q[k].t ≤ 52595999 → ∀ j (hj : j < Q.length), j < k + 1 → 0 ≤ Q[j].t ∧ Q[j].t ≤ 52595999) := Lib.hid (fun h j hj hjk => by
                rcases (by omega : j < k ∨ j = k) with q | rfl
                · exact HZ.out j hj q
                · exact h)
              obtain ⟨r, hr⟩ : ∃ r, Q[k] = r := ⟨_, rfl⟩
              rw [hr] at c0 c1 c2 c3 c4 c5 c6 c7 hrd HF1 HZ2
              clear hr
              obtain ⟨rk, rn, rt, rF, rA, rB, rC, ru, rL⟩ := r
              simp only at c0 c1 c2 c3 c4 c5 c6 c7 hrd HF1 HZ2
              obtain ⟨Au, cu, eu, -⟩ := id hrd
              have eu' : ru = .slice Au rL.length cu := eu
              subst eu'
              clear eu
              have b1 := (Below.refl wr.heap.size wr).alloc (Nat.le_refl _) (.cells (repC rk rn rt rF rA rB rC (.slice Au rL.length cu)) 38)
              have H2 : Hid (Below w.heap.size w (wr.alloc (.cells (repC rk rn rt rF rA rB rC (.slice Au rL.length cu)) 38)) ∧ Row (wr.alloc (.cells (repC rk rn rt rF rA rB rC (.slice Au rL.length cu)) 38)) wr.heap.size 38 (repC rk rn rt rF rA rB rC (.slice Au rL.length cu)) ∧ El.RdIn (wr.alloc (.cells (repC rk rn rt rF rA rB rC (.slice Au rL.length cu)) 38)) (.slice Au rL.length cu) rL) := Lib.hid ⟨BB.out.alloc BB.out.size _, Row.new _ _ _, hrd.under b1⟩
              clear b1 hrd BB
              go_upto_region 14 with fail
              refine forget (fun Y => Hid (Below w.heap.size w Y ∧ Row Y wr.heap.size 38 (repC rk rn rt rF rA rB rC (.slice Au rL.length cu)) ∧ El.RdIn Y (.slice Au rL.length cu) rL)) H2 ?_
              clear H2 c0 c1 c2 c3 c4 c5 c6 c7
              generalize wr.heap.size = gr at *
              rintro Y2 H2
              obtain ⟨q0, q1, q2, q3, q4, q5, q6, q7⟩ := row8 H2.out.2.1
              have H3 := Lib.hid H2.out.1
              clear H2
              by_cases ht1 : rt < 0
              · have HF : Hid (erT Q S P = 1) := Lib.hid (by rw [HEr2.out, if_pos (HF1.out (.inl ht1))])
                go_wp2_with fail
                go_ret
                exact ⟨ret_i64 HF.out.symm, H3.out⟩
              · by_cases ht2 : 52595999 < rt
                · have HF : Hid (erT Q S P = 1) := Lib.hid (by rw [HEr2.out, if_pos (HF1.out (.inr ht2))])
                  go_wp2_with fail
                  go_ret
                  exact ⟨ret_i64 HF.out.symm, H3.out⟩
                · have HZ3 := Lib.hid (HZ2.out ⟨by omega, by omega⟩)
                  go_wp2_with fail
                  go_roundw
                  case rel => exact ⟨k + 1, by omega, by go_num, H3, HZ3⟩
                  case measure => simp [intOf]; omega
            · obtain rfl : k = Q.length := by omega
              have k1 : ¬ (Q.length : Int) < (Q.length : Int) := by omega
              have HTm : Hid (∀ r ∈ Q, 0 ≤ r.t ∧ r.t ≤ 52595999) := Lib.hid (fun r hr => by
                obtain ⟨j, hj, rfl⟩ := List.getElem_of_mem hr
                exact HZ.out j hj hj)
              have HEr3 : Hid (erT Q S P = if DupK Q Q.length then 5 else 0) := Lib.hid (by
                rw [HEr2.out, if_neg]
                rintro ⟨r, hr, h⟩
                have := HTm.out r hr
                omega)
              clear HEr2 HZ
              go_wp2_with fail
              refine (repeated_any _ Q _ (HV.out.under BB.out) hl HN.out HTm.out).mono ?_
              rintro e Y4 ⟨rfl, g4⟩
              have H4 := Lib.hid (BB.out.trans (g4.mono BB.out.size))
              clear g4 BB
              by_cases hd : DupK Q Q.length
              · rw [decide_eq_true hd]
                have HF : Hid (erT Q S P = 5) := Lib.hid (by rw [HEr3.out, if_pos hd])
                go_wp2_with fail
                go_ret
                exact ⟨ret_i64 HF.out.symm, H4.out⟩
              · rw [decide_eq_false hd]
                have HF : Hid (erT Q S P = 0) := Lib.hid (by rw [HEr3.out, if_neg hd])
                go_wp2_with fail
                go_ret
                exact ⟨ret_i64 HF.out.symm, H4.out⟩
end Go.Proofs.YtlakgkoohdfiaaaDoor.Tm

namespace Go.Proofs.YtlakgkoohdfiaaaDoor.Tm
open Go.RowKit Go.Maps Go.ChangeMaps

theorem fstV_all : ∀ (Q : List Rp), fstV Q = 0 → ∀ r ∈ Q, El.Elt.vld r.L = 0
  | [], _, r, hr => by cases hr
  | q :: Q, h, r, hr => by
    unfold fstV at h
    by_cases h0 : El.Elt.vld q.L = 0
    · rw [if_neg (by simp [h0])] at h
      rcases List.mem_cons.1 hr with rfl | hr
      · exact h0
      · exact fstV_all Q h r hr
    · rw [if_pos h0] at h; exact absurd h h0
theorem bad12_all {f : Nat → Int} (h : bad12 f = false) {j : Nat} (hj : j < 12) : 0 ≤ f j ∧ f j ≤ 10000 := by
  unfold bad12 at h
  rw [List.any_eq_false] at h
  have := h j (List.mem_range.2 hj)
  unfold badL at this
  simp at this
  exact this
/-- What a check without an error knows of its arguments. -/
structure OkT (Q : List Rp) (S P : Int → Int) : Prop where
  s : ∀ j : Nat, j < 12 → 0 ≤ S j ∧ S j ≤ 10000
  p : ∀ j : Nat, j < 12 → 0 ≤ P j ∧ P j ≤ 10000
  v : ∀ r ∈ Q, El.Elt.vld r.L = 0
  t : ∀ r ∈ Q, 0 ≤ r.t ∧ r.t ≤ 52595999
  d : Dis Q
theorem erT_ok {Q : List Rp} {S P : Int → Int} (h : erT Q S P = 0) : OkT Q S P := by
  unfold erT at h
  split at h
  · cases h
  · rename_i h1
    split at h
    · rename_i h2; exact absurd h h2
    · rename_i h2
      split at h
      · cases h
      · rename_i h3
        split at h
        · cases h
        · rename_i h4
          have a1 : bad12 (fun j => S j) = false := by cases q : bad12 (fun j => S j) with | false => rfl | true => exact absurd (.inl q) h1
          have a2 : bad12 (fun j => P j) = false := by cases q : bad12 (fun j => P j) with | false => rfl | true => exact absurd (.inr q) h1
          refine ⟨fun j hj => bad12_all a1 hj, fun j hj => bad12_all a2 hj, fstV_all Q (Classical.not_not.1 h2), fun r hr => ?_, dis_of h4⟩
          refine ⟨Int.not_lt.1 fun q => h3 ⟨r, hr, .inl q⟩, Int.not_lt.1 fun q => h3 ⟨r, hr, .inr q⟩⟩
section
variable {Q : List Rp} {S P : Int → Int}
/-- The flags of the first j points of a key. -/
def ff (Q : List Rp) (S P : Int → Int) (key : Ke) (j : Nat) : List (Nat × Int) := ((List.range j).filter fun i => rjt (S key.2) (P key.2) (lin Q key.1 key.2) i).map fun i => ((pa (lin Q key.1 key.2) i).i, key.2)
def ffA (Q : List Rp) (S P : Int → Int) (key : Ke) : List (Nat × Int) := ff Q S P key (lin Q key.1 key.2).length
theorem ff_yes {key : Ke} {j : Nat} (h : rjt (S key.2) (P key.2) (lin Q key.1 key.2) j = true) : ff Q S P key (j + 1) = ff Q S P key j ++ [((pa (lin Q key.1 key.2) j).i, key.2)] := by
  unfold ff
  rw [List.range_succ, List.filter_append, List.map_append]
  simp [h]
theorem ff_no {key : Ke} {j : Nat} (h : rjt (S key.2) (P key.2) (lin Q key.1 key.2) j = false) : ff Q S P key (j + 1) = ff Q S P key j := by
  unfold ff
  rw [List.range_succ, List.filter_append, List.map_append]
  simp [h]
theorem ff_mem {key : Ke} {j : Nat} {q : Nat × Int} : q ∈ ff Q S P key j ↔ ∃ i, i < j ∧ rjt (S key.2) (P key.2) (lin Q key.1 key.2) i = true ∧ q = ((pa (lin Q key.1 key.2) i).i, key.2) := by
  unfold ff
  rw [List.mem_map]
  constructor
  · rintro ⟨i, hi, rfl⟩
    obtain ⟨h1, h2⟩ := List.mem_filter.1 hi
    exact ⟨i, List.mem_range.1 h1, h2, rfl⟩
  · rintro ⟨i, h1, h2, rfl⟩
    exact ⟨i, List.mem_filter.2 ⟨List.mem_range.2 h1, h2⟩, rfl⟩
theorem lin_at {key : Ke} {i : Nat} (h : i < (lin Q key.1 key.2).length) : ∃ hq : (pa (lin Q key.1 key.2) i).i < Q.length, Q[(pa (lin Q key.1 key.2) i).i].nm = key.1 ∧ Q[(pa (lin Q key.1 key.2) i).i].t = (pa (lin Q key.1 key.2) i).t ∧ fnd Q[(pa (lin Q key.1 key.2) i).i].L key.2 = some (pa (lin Q key.1 key.2) i).v :=
  (lin_mem Q key.1 key.2 _).1 (by rw [pa_get h]; exact List.getElem_mem h)
theorem lin_pb (hO : OkT Q S P) {key : Ke} {i : Nat} (h : i < (lin Q key.1 key.2).length) : Pb (pa (lin Q key.1 key.2) i) := by
  obtain ⟨h1, h2, h3, h4⟩ := lin_at h
  have hm := (fnd_mem (vld_asc (hO.v _ (List.getElem_mem h1)))).2 h4
  have hb := (bd0 (hO.v _ (List.getElem_mem h1)) _ hm).2
  have ht := hO.t _ (List.getElem_mem h1)
  rw [h3] at ht
  exact ⟨hb, ht⟩
theorem lin_code (hO : OkT Q S P) {key : Ke} (h : 0 < (lin Q key.1 key.2).length) : 1 ≤ key.2 ∧ key.2 ≤ 11 := by
  obtain ⟨h1, h2, h3, h4⟩ := lin_at h
  exact (bd0 (hO.v _ (List.getElem_mem h1)) _ ((fnd_mem (vld_asc (hO.v _ (List.getElem_mem h1)))).2 h4)).1
theorem ff_nodup (hO : OkT Q S P) (key : Ke) : (ffA Q S P key).Nodup := by
  unfold ffA ff List.Nodup
  rw [List.pairwise_map]
  refine List.Pairwise.imp_of_mem ?_ (List.Pairwise.filter _ List.pairwise_lt_range)
  intro a b ha hb hab e
  injection e with e
  have ha' : a < (lin Q key.1 key.2).length := List.mem_range.1 (List.mem_filter.1 ha).1
  have hb' : b < (lin Q key.1 key.2).length := List.mem_range.1 (List.mem_filter.1 hb).1
  obtain ⟨h1, -, h3, -⟩ := lin_at ha'
  obtain ⟨k1, -, k3, -⟩ := lin_at hb'
  have hs := List.pairwise_iff_getElem.1 (lin_srt hO.d key.1 key.2) a b ha' hb' hab
  rw [← pa_get ha', ← pa_get hb'] at hs
  have : (pa (lin Q key.1 key.2) a).t = (pa (lin Q key.1 key.2) b).t := by
    rw [← h3, ← k3]
    congr 2
  omega
theorem fl_nodup (hO : OkT Q S P) {Ks : List Ke} (hn : Ks.Nodup) : (Ks.flatMap (ffA Q S P)).Nodup := by
  unfold List.Nodup
  rw [List.pairwise_flatMap]
  refine ⟨fun k _ => ff_nodup hO k, hn.imp fun {a b} hab x hx y hy e => ?_⟩
  subst e
  obtain ⟨i, hi, -, e1⟩ := ff_mem.1 hx
  obtain ⟨j, hj, -, e2⟩ := ff_mem.1 hy
  obtain ⟨h1, h2, -⟩ := lin_at hi
  obtain ⟨k1, k2, -⟩ := lin_at hj
  rw [e1] at e2
  injection e2 with e3 e4
  apply hab
  refine Prod.ext ?_ e4
  rw [← h2, ← k2]
  congr 2
theorem sum12 (m : Nat) : ((List.range m).map fun _ => 12).sum = m * 12 := by
  induction m with
  | zero => rfl
  | succ m ih => rw [List.range_succ, List.map_append, List.sum_append, ih]; simp; omega
theorem fl_len (hO : OkT Q S P) (hQ : Q.length ≤ 1000) {Ks : List Ke} (hn : Ks.Nodup) : (Ks.flatMap (ffA Q S P)).length ≤ 12000 := by
  have h := sub_len (fl_nodup hO hn) (M := (List.range Q.length).flatMap fun i => (List.range 12).map fun c : Nat => (i, (c : Int))) fun q hq => by
    obtain ⟨key, -, hk⟩ := List.mem_flatMap.1 hq
    obtain ⟨i, hi, -, rfl⟩ := ff_mem.1 hk
    obtain ⟨h1, -⟩ := lin_at hi
    have h2 := lin_code hO (key := key) (by omega)
    exact List.mem_flatMap.2 ⟨_, List.mem_range.2 h1, List.mem_map.2 ⟨key.2.toNat, List.mem_range.2 (by omega), by
      refine Prod.ext rfl ?_
      show ((key.2.toNat : Nat) : Int) = key.2
      omega⟩⟩
  have e : ((List.range Q.length).flatMap fun i => (List.range 12).map fun c : Nat => (i, (c : Int))).length = Q.length * 12 := by
    rw [List.length_flatMap]
    simp only [List.length_map, List.length_range]
    exact sum12 _
  omega
theorem ff_sub (key : Ke) {j : Nat} (h : j ≤ (lin Q key.1 key.2).length) : (ff Q S P key j).length ≤ (ffA Q S P key).length := by
  unfold ffA ff
  rw [List.length_map, List.length_map]
  refine List.Sublist.length_le (List.Sublist.filter _ ?_)
  exact List.range_sublist.2 h
theorem part_len (hO : OkT Q S P) (hQ : Q.length ≤ 1000) {Ks : List Ke} {key : Ke} (hn : (Ks ++ [key]).Nodup) {j : Nat} (h : j ≤ (lin Q key.1 key.2).length) : (Ks.flatMap (ffA Q S P) ++ ff Q S P key j).length ≤ 12000 := by
  have h1 := fl_len hO hQ hn
  rw [List.flatMap_append, List.length_append] at h1
  have h2 := ff_sub (Q := Q) (S := S) (P := P) key h
  rw [List.length_append]
  rw [show ([key].flatMap (ffA Q S P)) = ffA Q S P key by simp] at h1
  omega
/-- The flags of all keys, sorted, are those of the check. -/
theorem fl_sorted (hO : OkT Q S P) {Ks : List Ke} (hn : Ks.Nodup) (hk : ∀ key, lin Q key.1 key.2 ≠ [] → key ∈ Ks) {F : List (Nat × Int)} (hp : F.Perm (Ks.flatMap (ffA Q S P))) (hs : F.Pairwise fun x y => ¬ cfF y x < 0) : F = flg Q S P := by
  have hs' : SrtF F := by
    have h2 := List.pairwise_and_iff.2 ⟨hs, hp.nodup_iff.2 (fl_nodup hO hn)⟩
    refine h2.imp fun {a b} ⟨h1, h2⟩ => ?_
    rcases ltF_tri a b with h | h | h
    · exact h
    · exact absurd h h2
    · exact absurd ((cfF_neg b a).2 h) h1
  refine srtF_ext hs' (flg_srt S P fun r hr => vld_asc (hO.v r hr)) fun q => ?_
  rw [hp.mem_iff, flg_mem, List.mem_flatMap]
  constructor
  · rintro ⟨key, -, hq⟩
    obtain ⟨i, hi, hr, rfl⟩ := ff_mem.1 hq
    obtain ⟨h1, h2, h3, h4⟩ := lin_at hi
    refine ⟨h1, ⟨_, (fnd_mem (vld_asc (hO.v _ (List.getElem_mem h1)))).2 h4, rfl⟩, ?_⟩
    rw [rej_iff]
    dsimp only
    rw [h2]
    exact ⟨i, hi, rfl, hr⟩
  · rintro ⟨h1, -, h3⟩
    obtain ⟨j, hj, e, hr⟩ := (rej_iff _ _ _ _ _ _).1 h3
    refine ⟨(Q[q.1].nm, q.2), hk _ (fun q0 => by dsimp only at q0; rw [q0] at hj; simp at hj), ff_mem.2 ⟨j, hj, hr, ?_⟩⟩
    exact Prod.ext e.symm rfl
end
/-- The keys that have come out. -/
structure Kd (f : Ke → Option Value) (left : Lit → Bool) (K : List Ke) : Prop where
  ok : ∀ k ∈ K, KeOk k
  nd : K.Nodup
  iff : ∀ k, KeOk k → (k ∈ K ↔ (f k).isSome = true ∧ left (Ow.nk k) = false)
set_option maxRecDepth 100000 in
theorem Kd.none {f : Ke → Option Value} {D : DataW Value} (hD : ∀ k, KeOk k → Maps.has D (Ow.nk k) = (f k).isSome ∧ ∀ z, D.atKey (Ow.nk k) (.held z) = .held ((f k).getD z)) : Kd f (Maps.has D) [] :=
  ⟨fun k h => (by cases h), List.nodup_nil, fun k hk => ⟨fun h => (by cases h), fun ⟨h1, h2⟩ => by rw [(hD k hk).1, h1] at h2; cases h2⟩⟩
set_option maxRecDepth 100000 in
theorem Kd.snoc {f : Ke → Option Value} {left : Lit → Bool} {K : List Ke} (h : Kd f left K) {x : Ke} {c : Value} (hx : KeOk x) (hf : f x = some c) (hl : left (Ow.nk x) = true) : Kd f (fun z => left z && !z.sameKey (Ow.nk x)) (K ++ [x]) := by
  have hn : x ∉ K := fun q => by have := ((h.iff x hx).1 q).2; rw [hl] at this; cases this
  have same : ∀ k, KeOk k → ((Ow.nk k).sameKey (Ow.nk x) = true ↔ k = x) := fun k hk => ⟨fun q => Ow.nk_inj hk hx (WideAt.sameKey_eq q), fun e => by subst e; exact WideAt.sameKey_self (Ow.nk_key hk)⟩
  refine ⟨fun k hk => ?_, ?_, fun k hk => ?_⟩
  · rcases List.mem_append.1 hk with q | q
    · exact h.ok k q
    · rw [List.mem_singleton] at q; subst q; exact hx
  · rw [List.nodup_append]
    exact ⟨h.nd, by simp, fun a ha b hb => by rw [List.mem_singleton] at hb; subst hb; exact fun e => hn (e ▸ ha)⟩
  · rw [List.mem_append, List.mem_singleton, h.iff k hk]
    by_cases e : k = x
    · subst e
      rw [(same k hk).2 rfl]
      simp [hf]
    · have h0 : (Ow.nk k).sameKey (Ow.nk x) = false := by
        cases q : (Ow.nk k).sameKey (Ow.nk x) with
        | false => rfl
        | true => exact absurd ((same k hk).1 q) e
      rw [h0]
      simp [e]
/-- What is known in the outer loop of Check. -/
structure G3 (w Y2 : World) (n : Nat) (g : Ke → List Pt) (b gi gk : Nat) (cs : Array Value) (D : DataW Value) (f : Ke → Option Value) (left : Lit → Bool) (cnt : Nat) (o : Value) (F : List (Nat × Int)) (Y : World) : Prop where
  below : Below w.heap.size w Y
  map : Ow.Ms Y b n f
  rng : Y.ranges Tryd.prog 132 MsR b gi n D left cnt
  rows : ∀ k v, f k = some v → Y.ownsRow Y2.heap.size 137 3 v (g k).length (rc ptE (g k)) ∧ 0 < (g k).length
  ct : Row Y gk 67 cs
  fl : Y.ownsRow (gi + 1) 77 3 o F.length (rc flE F)
  it : gi + 1 ≤ Y.heap.size
section
variable {w Y2 Y Y' : World} {n b gi gk cnt : Nat} {g : Ke → List Pt} {cs : Array Value} {D : DataW Value} {f : Ke → Option Value} {left : Lit → Bool} {o : Value} {F : List (Nat × Int)}
theorem G3.under (h : G3 w Y2 n g b gi gk cs D f left cnt o F Y) (hb : Below Y.heap.size Y Y') : G3 w Y2 n g b gi gk cs D f left cnt o F Y' :=
  ⟨h.below.trans (hb.mono h.below.size), h.map.kept (row := none) (grown_below hb) (by simp), h.rng.kept (grown_below (r := none) hb) (by simp) (by simp), fun k v e => ⟨El.own_under (h.rows k v e).1 hb, (h.rows k v e).2⟩, h.ct.under hb, El.own_under h.fl hb, Nat.le_trans h.it hb.size⟩
theorem G3.app (h : G3 w Y2 n g b gi gk cs D f left cnt o F Y) (hw : w.heap.size ≤ gi) (hfi : ∀ k v, f k = some v → ∀ i, v.ownBlock = some i → i < gi) {v' : Value} {x : Nat × Int} (hg : Y.grownBy Y' o.ownBlock) (ho : Y'.ownsRow (gi + 1) 77 3 v' (F.length + 1) (rc flE F ++ flE x)) : G3 w Y2 n g b gi gk cs D f left cnt v' (F ++ [x]) Y' := by
  have hbo := h.map.ne_own h.fl
  refine ⟨h.below.grown hg h.below.size (fun i e => by have := row_base h.fl e; omega), h.map.kept hg hbo, h.rng.kept hg hbo (fun e => by have := row_base h.fl e.symm; omega), fun k v e => ⟨own_heap (h.rows k v e).1 fun i hi => hg.block i (row_size (h.rows k v e).1 hi) (fun q => ?_), (h.rows k v e).2⟩, h.ct.grown hg (fun e => row_not h.fl h.ct (by decide) e.symm), by rw [rc_app, List.length_append]; exact ho, Nat.le_trans h.it hg.size⟩
  have h1 := hfi k v e i hi
  have h2 := row_base h.fl q.symm
  omega
end
theorem G3.next {w Y2 Y Y' : World} {n b gi gk cnt cnt' : Nat} {g : Ke → List Pt} {cs : Array Value} {D : DataW Value} {f : Ke → Option Value} {left left' : Lit → Bool} {o : Value} {F : List (Nat × Int)} (h : G3 w Y2 n g b gi gk cs D f left cnt o F Y) (hg : Y.grownBy Y' (some gi)) (hr : Y'.ranges Tryd.prog 132 MsR b gi n D left' cnt')
    (hw : w.heap.size ≤ gi) (hb : b < gi) (hk : gk < gi) (hfi : ∀ k v, f k = some v → ∀ i, v.ownBlock = some i → i < gi) : G3 w Y2 n g b gi gk cs D f left' cnt' o F Y' :=
  ⟨h.below.grown hg h.below.size (fun i e => by injection e with e; omega), h.map.kept hg (fun e => by injection e with e; omega), hr, fun k v e => ⟨own_heap (h.rows k v e).1 fun i hi => hg.block i (row_size (h.rows k v e).1 hi) (fun q => by injection q with q; have := hfi k v e i hi; omega), (h.rows k v e).2⟩, h.ct.grown hg (fun e => by injection e with e; omega), own_heap h.fl fun i hi => hg.block i (row_size h.fl hi) (fun q => by injection q with q; have := row_base h.fl hi; omega), Nat.le_trans h.it hg.size⟩
theorem G3.to {w Y2 Y : World} {n b gi gk cnt : Nat} {g : Ke → List Pt} {cs : Array Value} {D : DataW Value} {f : Ke → Option Value} {left : Lit → Bool} {o : Value} {F F' : List (Nat × Int)} (h : G3 w Y2 n g b gi gk cs D f left cnt o F Y) (e : F = F') : G3 w Y2 n g b gi gk cs D f left cnt o F' Y := by subst e; exact h
/-- A row of marks in memory. -/
def Mr (gB n : Nat) (M : Nat → Bool) (w : World) : Prop := ∃ cs : Array Value, Row w gB 4 cs ∧ cs.size = n ∧ ∀ j, j < n → cs[j]? = some (.bool (M j))
theorem Mr.cell {gB n : Nat} {M : Nat → Bool} {w : World} (h : Mr gB n M w) {p : Nat} (hp : p < n) : w.cell? ⟨gB, p, none⟩ = some (.bool (M p)) := by
  obtain ⟨cs, hr, h1, h2⟩ := h
  exact (hr.cell p).trans (h2 p hp)
theorem Mr.under {gB n : Nat} {M : Nat → Bool} {w w' : World} (h : Mr gB n M w) (hb : Below w.heap.size w w') : Mr gB n M w' := by
  obtain ⟨cs, hr, h2⟩ := h
  exact ⟨cs, hr.under hb, h2⟩
theorem Mr.fl {gB n : Nat} {M : Nat → Bool} {w w' : World} (h : Mr gB n M w) {base size m : Nat} {o : Value} {xs : List Value} (ho : w.ownsRow base 77 size o m xs) (hg : w.grownBy w' o.ownBlock) : Mr gB n M w' := by
  obtain ⟨cs, hr, h2⟩ := h
  exact ⟨cs, hr.grown hg (fun e => row_not ho hr (by decide) e.symm), h2⟩
end Go.Proofs.YtlakgkoohdfiaaaDoor.Tm
