/- Track's sightings, ascending and plausible. -/
import Derived.Test.YtejoabaanclcbaaGreatQar
namespace Go.Proofs.YtejoabaanclcbaaGreat.Tk
open Go.RowKit

theorem own_keep {W W' : World} {base size n : Nat} {e : TypeId} {v : Value} {xs : List Value} (h : W.ownsRow base e size v n xs) (hk : ∀ i, v.ownBlock = some i → W'.heap[i]? = W.heap[i]?) : W'.ownsRow base e size v n xs := by
  refine ⟨h.1, ?_⟩
  rcases h.2 with h0 | ⟨g, cap, cur, rfl, h1, h2, h3⟩
  · exact .inl h0
  · exact .inr ⟨g, cap, cur, rfl, h1, (hk g rfl).trans h2, h3⟩
theorem own_lt {W : World} {base size n : Nat} {e : TypeId} {v : Value} {xs : List Value} (h : W.ownsRow base e size v n xs) {i : Nat} (hi : v.ownBlock = some i) : base ≤ i ∧ i < W.heap.size := by
  rcases h.2 with ⟨rfl, -⟩ | ⟨g, cap, cur, rfl, h1, h2, h3⟩
  · cases hi
  · cases hi
    exact ⟨h1, (Array.getElem?_eq_some_iff.1 h2).1⟩
theorem own_under {W W' : World} {base size n : Nat} {e : TypeId} {v : Value} {xs : List Value} (h : W.ownsRow base e size v n xs) (hb : Below W.heap.size W W') : W'.ownsRow base e size v n xs :=
  own_keep h fun i hi => hb.block i (own_lt h hi).2
theorem own_form {W : World} {base size n : Nat} {e : TypeId} {v : Value} {xs : List Value} (h : W.ownsRow base e size v n xs) : ∃ A cap, v = .slice A n cap := by
  rcases h.2 with ⟨rfl, rfl⟩ | ⟨g, cap, cur, rfl, hb, hg, -⟩
  · exact ⟨_, _, rfl⟩
  · exact ⟨_, _, rfl⟩
/-- A list of sightings that grows. -/
structure Sc (w : World) (L : List Sg) (v : Value) (Y : World) : Prop where
  below : Below w.heap.size w Y
  own : Y.ownsRow w.heap.size 74 4 v L.length (sgc L)
section
variable {w Y Y' : World} {L : List Sg} {v v' : Value} {x : Sg}
theorem Sc.under (h : Sc w L v Y) (hb : Below Y.heap.size Y Y') : Sc w L v Y' := ⟨h.below.trans (hb.mono h.below.size), own_under h.own hb⟩
theorem Sc.app (h : Sc w L v Y) (ho : Y'.ownsRow w.heap.size 74 4 v' (L.length + 1) (sgc L ++ sgCells x)) (hg : Y.grownBy Y' v.ownBlock) : Sc w (L ++ [x]) v' Y' :=
  ⟨below_own h.below h.below.size h.own hg, by rw [sgc_app, List.length_append]; simpa [sgc] using ho⟩
end
/-- A kind's test. -/
def Kt (q : FuncId) (p : Int → Bool) : Prop := ∀ (k : Int) (W : World), Calls Tryz.prog q #[.int .i64 k] W fun e w' => e = .returned (.bool (p k)) ∧ W = w'
theorem anyKind_any : Kt 34 (fun _ => true) := by
  intro k W
  go_enter Tryz.func34, Tryz.ntmps34
  go_wp2_with fail
  go_ret
  exact ⟨rfl, rfl⟩
/-- The kinds of stations that move. -/
def sea (k : Int) : Bool := decide (k = 2 ∨ k = 3)
theorem moves_any : Kt 39 sea := by
  intro k W
  by_cases h2 : k = 2
  · subst h2
    go_enter Tryz.func39, Tryz.ntmps39
    go_wp2_with fail
    go_ret
    exact ⟨rfl, rfl⟩
  · by_cases h3 : k = 3
    · subst h3
      go_enter Tryz.func39, Tryz.ntmps39
      go_wp2_with fail
      go_ret
      exact ⟨rfl, rfl⟩
    · have e2 : (k == 2) = false := beq_eq_false_iff_ne.2 h2
      have e3 : (k == 3) = false := beq_eq_false_iff_ne.2 h3
      have HS := Lib.hid (show sea k = false by unfold sea; rw [decide_eq_false_iff_not]; omega)
      go_enter Tryz.func39, Tryz.ntmps39
      go_wp2_with fail
      go_ret
      exact ⟨by rw [HS.out]; rfl, rfl⟩
/-- What sightings answers. -/
def SgO (p : Int → Bool) (R : List Rq) (h : Int) (w : World) (e : Ending) (w' : World) : Prop :=
  (((0 ≤ h ∧ h ≤ 1000) ∧ oks p R) ∧ (∃ v, e = .returned (.tuple #[v, .int .i64 0]) ∧ w'.ownsRow w.heap.size 74 4 v (sgl p 0 R).length (sgc (sgl p 0 R))) ∨ ¬ ((0 ≤ h ∧ h ≤ 1000) ∧ oks p R) ∧ e = .returned (.tuple #[.slice none 0 0, .int .i64 1])) ∧ Below w.heap.size w w'
set_option maxRecDepth 100000 in
set_option maxHeartbeats 8000000 in
theorem sightings_all (v : Value) (R : List Rq) (h : Int) (w : World) (hR : RqIn w v R) (hl : R.length ≤ 100000) :
    Calls Tryz.prog 33 #[v, .int .i64 h, .func (.func 34) #[] #[]] w (SgO (fun _ => true) R h w) := by
  obtain ⟨i0, hi, hz0, hz1, hz2⟩ := info_parts infoSight
  obtain ⟨A, cap, rfl, hc1, hc2, hat⟩ := hR
  have HA := Lib.hid hat; clear hat
  have HQ := Lib.hid anyKind_any
  obtain ⟨p, hp⟩ : ∃ p : Int → Bool, p = (fun _ => true) := ⟨_, rfl⟩
  rw [← hp] at HQ ⊢
  clear hp
  by_cases hh : 0 ≤ h ∧ h ≤ 1000
  · obtain ⟨h0, h1⟩ := hh
    have n0 : ¬ h < 0 := by omega
    have n1 : ¬ (1000 : Int) < h := by omega
    go_enter Tryz.func33, Tryz.ntmps33
    go_wp2_with fail
    go_loopw [8, 21] (fun u t wr => ∃ i : Nat, i ≤ R.length ∧ t = .int .i64 i ∧ oks p (R.take i) ∧ Sc w (sgl p 0 (R.take i)) u wr) (fun _ t _ => R.length - (intOf t).toNat)
    case atStart => exact ⟨0, by omega, rfl, (by intro r hr; cases hr), ⟨Below.refl _ _, ⟨rfl, .inl ⟨rfl, rfl⟩⟩⟩⟩
    case round =>
      obtain ⟨i, hi', rfl, hok, hS⟩ := hrel
      have HOK := Lib.hid hok; clear hok
      have HS := Lib.hid hS; clear hS
      by_cases hlt : i < R.length
      · obtain ⟨g, off, rfl, hg, h8⟩ := HA.out i hlt
        have k0 : (i : Int) < (R.length : Int) := by omega
        have k1 : (0 : Int) ≤ (i : Int) := by omega
        have HST := Lib.hid (sgl_take (p := p) hlt)
        have HOKS := Lib.hid (show okr R[i] = true ∨ p R[i].k = false → oks p (R.take (i + 1)) from fun h r hr => by
          rw [List.take_succ_eq_append_getElem hlt] at hr
          rcases List.mem_append.1 hr with hr | hr
          · exact HOK.out r hr
          · obtain rfl := List.mem_singleton.1 hr
            intro hk
            rcases h with h | h
            · exact h
            · rw [h] at hk; cases hk)
        have HNO := Lib.hid (show p R[i].k = true → okr R[i] = false → ¬ oks p R from fun h1 h2 h => by rw [h _ (List.getElem_mem hlt) h1] at h2; cases h2)
        replace h8 := h8.under hg HS.out.below
        generalize R[i] = r at *
        obtain ⟨rk, rn, rt, rF, rA, rB, rC, ra, ru, rc⟩ := r
        obtain ⟨p0, p1, p2, p3, p4, p5, p6, p7⟩ := h8
        simp only at p0 p1 p2 p3 p4 p5 p6 p7 HST HOKS HNO
        go_upto_region 7 with fail
        refine forget (fun Y => Sc w (sgl p 0 (R.take i)) «u8» Y ∧ Row Y wr.heap.size 35 (rqC rk rn rt rF rA rB rC ra ru rc)) ⟨HS.out.under ((Below.refl _ _).alloc (Nat.le_refl _) _), Row.new _ _ _⟩ ?_
        clear p0 p1 p2 p3 p4 p5 p6 p7 HS
        generalize wr.heap.size = gr at *
        rintro Y ⟨hS, rr⟩
        have HS := Lib.hid hS; clear hS
        obtain ⟨p0, p1, p2, p3, p4, p5, p6, p7⟩ := row8 rr
        have HR := Lib.hid rr; clear rr
        go_wp2_with fail
        refine (HQ.out rk Y).mono ?_
        rintro e w1 ⟨rfl, rfl⟩
        obtain ⟨pk, hpk⟩ : ∃ b, p rk = b := ⟨_, rfl⟩
        rw [hpk] at HST HOKS HNO ⊢
        clear hpk
        cases pk
        · have HS2 := Lib.hid (show oks p (R.take (i + 1)) ∧ Sc w (sgl p 0 (R.take (i + 1))) «u8» Y from ⟨HOKS.out (.inr rfl), by rw [HST.out]; simpa using HS.out⟩)
          clear HS HR HST HOKS HNO p0 p1 p2 p3 p4 p5 p6 p7
          go_wp2_with fail
          go_roundw
          case rel => exact ⟨i + 1, by omega, by go_num, HS2.out.1, HS2.out.2⟩
          case measure => simp [intOf]; omega
        · go_wp2_with fail
          refine (nearest8_any rF rA rB rC Y).mono ?_
          rintro e w1 ⟨hcase, hb⟩
          have HS1 := Lib.hid (HS.out.under hb)
          have HR1 := Lib.hid (HR.out.under hb)
          clear HS HR hb p0 p1 p2 p3 p4 p5 p6 p7
          obtain ⟨p0, p1, p2, p3, p4, p5, p6, p7⟩ := row8 HR1.out
          rcases hcase with ⟨hv, rfl⟩ | ⟨hv, rfl⟩
          · by_cases ht : 0 ≤ rt ∧ rt ≤ 52595999
            · have m0 : ¬ rt < 0 := by omega
              have m1 : ¬ (52595999 : Int) < rt := by omega
              have HOK2 := Lib.hid (HOKS.out (.inl (by unfold okr tOk; rw [hv, decide_eq_true ht]; rfl)))
              have HSA := Lib.hid (HS1.out.under ((Below.refl _ _).alloc (Nat.le_refl _) (.cells #[.string rn, .int .i64 rt, .int .i64 (nod rF rA rB rC : Nat), .int .i64 i] 74)))
              have HLEN := Lib.hid (Nat.le_trans (sgl_len p (R.take i) 0) (by rw [List.length_take]; omega : (R.take i).length ≤ 100000))
              obtain ⟨x, hx⟩ : ∃ x : Sg, x = ⟨rn, rt, nod rF rA rB rC, i⟩ := ⟨_, rfl⟩
              clear hv HOKS HNO ht
              go_wp2_with (at_builtin; refine wpList_append_lies _ rfl (.tmp 49) (.tmp 57) 63 rfl w.heap.size 74 i0 _ 4 40 Tryz.underlying63 hi hz0 hz1 hz2 rfl (by decide) «u8» (sgl p 0 (R.take i)).length (sgc (sgl p 0 (R.take i))) rfl HSA.out.own ⟨w1.heap.size, 0, none⟩ 1 1 (sgCells ⟨rn, rt, nod rF rA rB rC, i⟩) rfl rfl (World.news_of_block (cs := #[.string rn, .int .i64 rt, .int .i64 (nod rF rA rB rC : Nat), .int .i64 i]) (t := 74) (fr := (0, 0)) (heap_alloc_new w1 _)) (sgc_one [⟨rn, rt, nod rF rA rB rC, i⟩] |> fun h u hu => h u (by simpa [sgc] using hu)) (by omega) (by have := HLEN.out; unfold maxLen; omega) (by have := HLEN.out; omega) HSA.out.below.size (w1.heap.size + 1) (by simp) ?_; intro g' cap' w6 hown6 hgrow6 hat6 hlt6; have H6 := Lib.hid (HSA.out.app hown6 hgrow6); clear hown6 hgrow6 hat6 hlt6)
              go_wp2_with fail
              go_roundw
              case rel => exact ⟨i + 1, by omega, by go_num, HOK2.out, by rw [HST.out]; simpa using H6.out⟩
              case measure => simp [intOf]; omega
            · have HN := Lib.hid (HNO.out (by simp) (by unfold okr tOk; rw [decide_eq_false ht, Bool.and_false]))
              have HB := Lib.hid HS1.out.below
              by_cases m0 : rt < 0
              · clear ht HOKS HNO
                go_wp2_with fail
                go_ret2
                exact ⟨.inr ⟨fun h => HN.out h.2, rfl⟩, HB.out⟩
              · have m1 : (52595999 : Int) < rt := by omega
                clear ht HOKS HNO
                go_wp2_with fail
                go_ret2
                exact ⟨.inr ⟨fun h => HN.out h.2, rfl⟩, HB.out⟩
          · have HN := Lib.hid (HNO.out (by simp) (by unfold okr; rw [hv]; rfl))
            have HB := Lib.hid HS1.out.below
            clear HOKS HNO hv
            go_wp2_with fail
            go_ret2
            exact ⟨.inr ⟨fun h => HN.out h.2, rfl⟩, HB.out⟩
      · have k0 : ¬ (i : Int) < (R.length : Int) := by omega
        have HT := Lib.hid (show R.take i = R from List.take_of_length_le (by omega))
        go_wp2_with fail
        go_ret2
        exact ⟨.inl ⟨⟨⟨h0, h1⟩, by have := HOK.out; rwa [HT.out] at this⟩, «u8», rfl, by have := HS.out.own; rwa [HT.out] at this⟩, HS.out.below⟩
  · by_cases n0 : h < 0
    · have HH := Lib.hid hh; clear hh
      go_enter Tryz.func33, Tryz.ntmps33
      go_wp2_with fail
      go_ret2
      exact ⟨.inr ⟨fun h => HH.out h.1, rfl⟩, Below.refl _ _⟩
    · have n1 : (1000 : Int) < h := by omega
      have HH := Lib.hid hh; clear hh
      go_enter Tryz.func33, Tryz.ntmps33
      go_wp2_with fail
      go_ret2
      exact ⟨.inr ⟨fun h => HH.out h.1, rfl⟩, Below.refl _ _⟩
set_option maxRecDepth 100000 in
set_option maxHeartbeats 8000000 in
theorem sightings_sea (v : Value) (R : List Rq) (h : Int) (w : World) (hR : RqIn w v R) (hl : R.length ≤ 100000) :
    Calls Tryz.prog 33 #[v, .int .i64 h, .func (.func 39) #[] #[]] w (SgO sea R h w) := by
  obtain ⟨i0, hi, hz0, hz1, hz2⟩ := info_parts infoSight
  obtain ⟨A, cap, rfl, hc1, hc2, hat⟩ := hR
  have HA := Lib.hid hat; clear hat
  have HQ := Lib.hid moves_any
  obtain ⟨p, hp⟩ : ∃ p : Int → Bool, p = sea := ⟨_, rfl⟩
  rw [← hp] at HQ ⊢
  clear hp
  by_cases hh : 0 ≤ h ∧ h ≤ 1000
  · obtain ⟨h0, h1⟩ := hh
    have n0 : ¬ h < 0 := by omega
    have n1 : ¬ (1000 : Int) < h := by omega
    go_enter Tryz.func33, Tryz.ntmps33
    go_wp2_with fail
    go_loopw [8, 21] (fun u t wr => ∃ i : Nat, i ≤ R.length ∧ t = .int .i64 i ∧ oks p (R.take i) ∧ Sc w (sgl p 0 (R.take i)) u wr) (fun _ t _ => R.length - (intOf t).toNat)
    case atStart => exact ⟨0, by omega, rfl, (by intro r hr; cases hr), ⟨Below.refl _ _, ⟨rfl, .inl ⟨rfl, rfl⟩⟩⟩⟩
    case round =>
      obtain ⟨i, hi', rfl, hok, hS⟩ := hrel
      have HOK := Lib.hid hok; clear hok
      have HS := Lib.hid hS; clear hS
      by_cases hlt : i < R.length
      · obtain ⟨g, off, rfl, hg, h8⟩ := HA.out i hlt
        have k0 : (i : Int) < (R.length : Int) := by omega
        have k1 : (0 : Int) ≤ (i : Int) := by omega
        have HST := Lib.hid (sgl_take (p := p) hlt)
        have HOKS := Lib.hid (show okr R[i] = true ∨ p R[i].k = false → oks p (R.take (i + 1)) from fun h r hr => by
          rw [List.take_succ_eq_append_getElem hlt] at hr
          rcases List.mem_append.1 hr with hr | hr
          · exact HOK.out r hr
          · obtain rfl := List.mem_singleton.1 hr
            intro hk
            rcases h with h | h
            · exact h
            · rw [h] at hk; cases hk)
        have HNO := Lib.hid (show p R[i].k = true → okr R[i] = false → ¬ oks p R from fun h1 h2 h => by rw [h _ (List.getElem_mem hlt) h1] at h2; cases h2)
        replace h8 := h8.under hg HS.out.below
        generalize R[i] = r at *
        obtain ⟨rk, rn, rt, rF, rA, rB, rC, ra, ru, rc⟩ := r
        obtain ⟨p0, p1, p2, p3, p4, p5, p6, p7⟩ := h8
        simp only at p0 p1 p2 p3 p4 p5 p6 p7 HST HOKS HNO
        go_upto_region 7 with fail
        refine forget (fun Y => Sc w (sgl p 0 (R.take i)) «u8» Y ∧ Row Y wr.heap.size 35 (rqC rk rn rt rF rA rB rC ra ru rc)) ⟨HS.out.under ((Below.refl _ _).alloc (Nat.le_refl _) _), Row.new _ _ _⟩ ?_
        clear p0 p1 p2 p3 p4 p5 p6 p7 HS
        generalize wr.heap.size = gr at *
        rintro Y ⟨hS, rr⟩
        have HS := Lib.hid hS; clear hS
        obtain ⟨p0, p1, p2, p3, p4, p5, p6, p7⟩ := row8 rr
        have HR := Lib.hid rr; clear rr
        go_wp2_with fail
        refine (HQ.out rk Y).mono ?_
        rintro e w1 ⟨rfl, rfl⟩
        obtain ⟨pk, hpk⟩ : ∃ b, p rk = b := ⟨_, rfl⟩
        rw [hpk] at HST HOKS HNO ⊢
        clear hpk
        cases pk
        · have HS2 := Lib.hid (show oks p (R.take (i + 1)) ∧ Sc w (sgl p 0 (R.take (i + 1))) «u8» Y from ⟨HOKS.out (.inr rfl), by rw [HST.out]; simpa using HS.out⟩)
          clear HS HR HST HOKS HNO p0 p1 p2 p3 p4 p5 p6 p7
          go_wp2_with fail
          go_roundw
          case rel => exact ⟨i + 1, by omega, by go_num, HS2.out.1, HS2.out.2⟩
          case measure => simp [intOf]; omega
        · go_wp2_with fail
          refine (nearest8_any rF rA rB rC Y).mono ?_
          rintro e w1 ⟨hcase, hb⟩
          have HS1 := Lib.hid (HS.out.under hb)
          have HR1 := Lib.hid (HR.out.under hb)
          clear HS HR hb p0 p1 p2 p3 p4 p5 p6 p7
          obtain ⟨p0, p1, p2, p3, p4, p5, p6, p7⟩ := row8 HR1.out
          rcases hcase with ⟨hv, rfl⟩ | ⟨hv, rfl⟩
          · by_cases ht : 0 ≤ rt ∧ rt ≤ 52595999
            · have m0 : ¬ rt < 0 := by omega
              have m1 : ¬ (52595999 : Int) < rt := by omega
              have HOK2 := Lib.hid (HOKS.out (.inl (by unfold okr tOk; rw [hv, decide_eq_true ht]; rfl)))
              have HSA := Lib.hid (HS1.out.under ((Below.refl _ _).alloc (Nat.le_refl _) (.cells #[.string rn, .int .i64 rt, .int .i64 (nod rF rA rB rC : Nat), .int .i64 i] 74)))
              have HLEN := Lib.hid (Nat.le_trans (sgl_len p (R.take i) 0) (by rw [List.length_take]; omega : (R.take i).length ≤ 100000))
              obtain ⟨x, hx⟩ : ∃ x : Sg, x = ⟨rn, rt, nod rF rA rB rC, i⟩ := ⟨_, rfl⟩
              clear hv HOKS HNO ht
              go_wp2_with (at_builtin; refine wpList_append_lies _ rfl (.tmp 49) (.tmp 57) 63 rfl w.heap.size 74 i0 _ 4 40 Tryz.underlying63 hi hz0 hz1 hz2 rfl (by decide) «u8» (sgl p 0 (R.take i)).length (sgc (sgl p 0 (R.take i))) rfl HSA.out.own ⟨w1.heap.size, 0, none⟩ 1 1 (sgCells ⟨rn, rt, nod rF rA rB rC, i⟩) rfl rfl (World.news_of_block (cs := #[.string rn, .int .i64 rt, .int .i64 (nod rF rA rB rC : Nat), .int .i64 i]) (t := 74) (fr := (0, 0)) (heap_alloc_new w1 _)) (sgc_one [⟨rn, rt, nod rF rA rB rC, i⟩] |> fun h u hu => h u (by simpa [sgc] using hu)) (by omega) (by have := HLEN.out; unfold maxLen; omega) (by have := HLEN.out; omega) HSA.out.below.size (w1.heap.size + 1) (by simp) ?_; intro g' cap' w6 hown6 hgrow6 hat6 hlt6; have H6 := Lib.hid (HSA.out.app hown6 hgrow6); clear hown6 hgrow6 hat6 hlt6)
              go_wp2_with fail
              go_roundw
              case rel => exact ⟨i + 1, by omega, by go_num, HOK2.out, by rw [HST.out]; simpa using H6.out⟩
              case measure => simp [intOf]; omega
            · have HN := Lib.hid (HNO.out (by simp) (by unfold okr tOk; rw [decide_eq_false ht, Bool.and_false]))
              have HB := Lib.hid HS1.out.below
              by_cases m0 : rt < 0
              · clear ht HOKS HNO
                go_wp2_with fail
                go_ret2
                exact ⟨.inr ⟨fun h => HN.out h.2, rfl⟩, HB.out⟩
              · have m1 : (52595999 : Int) < rt := by omega
                clear ht HOKS HNO
                go_wp2_with fail
                go_ret2
                exact ⟨.inr ⟨fun h => HN.out h.2, rfl⟩, HB.out⟩
          · have HN := Lib.hid (HNO.out (by simp) (by unfold okr; rw [hv]; rfl))
            have HB := Lib.hid HS1.out.below
            clear HOKS HNO hv
            go_wp2_with fail
            go_ret2
            exact ⟨.inr ⟨fun h => HN.out h.2, rfl⟩, HB.out⟩
      · have k0 : ¬ (i : Int) < (R.length : Int) := by omega
        have HT := Lib.hid (show R.take i = R from List.take_of_length_le (by omega))
        go_wp2_with fail
        go_ret2
        exact ⟨.inl ⟨⟨⟨h0, h1⟩, by have := HOK.out; rwa [HT.out] at this⟩, «u8», rfl, by have := HS.out.own; rwa [HT.out] at this⟩, HS.out.below⟩
  · by_cases n0 : h < 0
    · have HH := Lib.hid hh; clear hh
      go_enter Tryz.func33, Tryz.ntmps33
      go_wp2_with fail
      go_ret2
      exact ⟨.inr ⟨fun h => HH.out h.1, rfl⟩, Below.refl _ _⟩
    · have n1 : (1000 : Int) < h := by omega
      have HH := Lib.hid hh; clear hh
      go_enter Tryz.func33, Tryz.ntmps33
      go_wp2_with fail
      go_ret2
      exact ⟨.inr ⟨fun h => HH.out h.1, rfl⟩, Below.refl _ _⟩
end Go.Proofs.YtejoabaanclcbaaGreat.Tk

