/- Contracts of open, repeat and expand. The contract of expand. -/
import Derived.Test.YtjaopjhfjijdaaaDoorAd
namespace Go.Proofs.YtjaopjhfjijdaaaDoor
open Go.RowKit

/-- What an expansion leaves. -/
def XPost (W : World) (gx b1 b2 : Nat) (es : List En) (ss : List Sq) (j : Jb) (n tk : Nat) (l : List En) (e : Ending) (w' : World) : Prop :=
  (∃ x : Int, Ev es ss j n tk l (.er x) ∧ x ≠ 0 ∧ e = .returned (.int .i64 x) ∧ Below W.heap.size W w') ∨ (∃ tk' l', Ev es ss j n tk l (.ok tk' l') ∧ (tk ≤ tk' ∧ tk' ≤ 500) ∧ e = .returned (.int .i64 0) ∧ Xp W gx b1 b2 es ss tk' l' w')
/-- expand serves from so many codes taken on. -/
def XC (es : List En) (ss : List Sq) (lim : Nat) : Prop := ∀ (W w : World) (gx b1 b2 tk : Nat) (l : List En) (n : Nat) (v : Value) (C : List Int), lim ≤ tk → tk ≤ 500 → Xp W gx b1 b2 es ss tk l w → NmIn W v C → n ≤ 21 →
  Calls Tryd.prog 34 #[.pointer (some ⟨gx, 0, none⟩), v, .int .i64 (n : Int)] w (XPost W gx b1 b2 es ss (.run C) n tk l)
/-- What open leaves. -/
def OPost (W : World) (gx b1 b2 : Nat) (es : List En) (ss : List Sq) (c : Int) (n tk : Nat) (l : List En) (e : Ending) (w' : World) : Prop :=
  (∃ x : Int, e = .returned (.int .i64 x) ∧ Below W.heap.size W w' ∧ ((x = 6 ∧ fS ss c = none) ∨ (x = 2 ∧ ∃ b, fS ss c = some b ∧ 20 < n))) ∨ ∃ b, fS ss c = some b ∧ n ≤ 20 ∧ XPost W gx b1 b2 es ss (.run b) (n + 1) tk l e w'
set_option maxRecDepth 100000 in
set_option maxHeartbeats 2000000 in
theorem open_any (W w : World) (gx b1 b2 : Nat) (es : List En) (ss : List Sq) (tk : Nat) (l : List En) (c : Int) (n lim : Nat) (hX : XC es ss lim) (hlim : lim ≤ tk) (htk : tk ≤ 500) (h : Xp W gx b1 b2 es ss tk l w) (hn : (ss.map (·.1)).Nodup) (hI : I64 c) (hn21 : n ≤ 21) :
    Calls Tryd.prog 55 #[.pointer (some ⟨gx, 0, none⟩), .int .i64 c, .int .i64 (n : Int)] w (OPost W gx b1 b2 es ss c n tk l) := by
  have HX := Lib.hid h
  have HC := Lib.hid hX
  obtain ⟨v, r, o⟩ := h.row
  obtain ⟨n1, f, s, m, e⟩ := h.m2
  have hl := m.run_look Tryd.underlying70 (zeroS w) hI
  have R := Lib.hid r
  obtain ⟨-, p1, -, -⟩ := row4 r
  rcases e.find hn c with ⟨hf, hs⟩ | ⟨b, u, hs, hf, hu⟩
  · rw [hf] at hl
    simp only [Option.getD_none, Option.isSome_none] at hl
    have HS := Lib.hid hs
    clear m e h hI hX r o hf hs
    go_enter Tryd.func55, Tryd.ntmps55
    go_wp2_with fail
    go_ret
    exact .inl ⟨6, rfl, HX.out.below.alloc HX.out.below.size _, .inl ⟨rfl, HS.out⟩⟩
  · rw [hf] at hl
    simp only [Option.getD_some, Option.isSome_some] at hl
    have HS := Lib.hid hs
    have HU := Lib.hid hu
    obtain ⟨Au, cu, rfl, -⟩ := hu
    clear m e h hI hX r o hf hs
    have b1' : Below w.heap.size w (w.alloc (.cells #[.int .i64 c, .slice Au b.length cu] 58)) := (Below.refl _ _).alloc (Nat.le_refl _) _
    have r5 := Row.new w #[.int .i64 c, .slice Au b.length cu] 58
    go_enter Tryd.func55, Tryd.ntmps55
    go_upto_region 2 with fail
    have X1 := Lib.hid (HX.out.under b1')
    generalize w.alloc (.cells #[.int .i64 c, .slice Au b.length cu] 58) = W1 at *
    generalize w.heap.size = g5 at r5 ⊢
    clear HX R hl p1 b1'
    obtain ⟨q0, q1⟩ := row2 r5
    clear r5
    by_cases h20 : 20 < n
    · have i1 : (20 : Int) < (n : Int) := by omega
      have HL := Lib.hid h20
      go_wp2_with fail
      go_ret
      exact .inl ⟨2, rfl, X1.out.below, .inr ⟨rfl, _, HS.out, HL.out⟩⟩
    · have i1 : ¬ (20 : Int) < (n : Int) := by omega
      have HL : Hid (n ≤ 20) := Lib.hid (by omega)
      have HK := Lib.hid (HC.out W W1 gx b1 b2 tk l (n + 1) _ b hlim htk X1.out HU.out (by omega))
      rw [show ((n + 1 : Nat) : Int) = (n : Int) + 1 by omega] at HK
      go_wp2_with fail
      refine HK.out.mono ?_
      rintro e w2 hp
      have HP := Lib.hid hp; clear hp
      rcases HP.out with ⟨x, h1, h2, rfl, h4⟩ | ⟨tk', l', h1, h2, rfl, h4⟩
      · clear h1 h2 h4
        go_wp2_with fail
        go_ret
        exact .inr ⟨b, HS.out, HL.out, HP.out⟩
      · clear h1 h2 h4
        go_wp2_with fail
        go_ret
        exact .inr ⟨b, HS.out, HL.out, HP.out⟩
set_option maxRecDepth 100000 in
set_option maxHeartbeats 2000000 in
theorem repeat_any (W w : World) (gx b1 b2 : Nat) (es : List En) (ss : List Sq) (tk : Nat) (l : List En) (v : Value) (C : List Int) (t n lim : Nat) (hX : XC es ss lim) (hlim : lim ≤ tk) (htk : tk ≤ 500) (h : Xp W gx b1 b2 es ss tk l w) (hv : NmIn W v C) (hn21 : n ≤ 21) (ht : t ≤ 20) :
    Calls Tryd.prog 57 #[.pointer (some ⟨gx, 0, none⟩), v, .int .i64 (t : Int), .int .i64 (n : Int)] w (XPost W gx b1 b2 es ss (.rep C t) n tk l) := by
  have HX := Lib.hid h
  have HC := Lib.hid hX
  have HV := Lib.hid hv
  obtain ⟨A, cap, rfl, h1, h2, -⟩ := hv
  clear h hX
  go_enter Tryd.func57, Tryd.ntmps57
  go_wp2_with fail
  go_loopw [8, 9, 11] (fun _ _ x wr => ∃ (k tk1 : Nat) (l1 : List En), k ≤ t ∧ x = .int .i64 k ∧ tk ≤ tk1 ∧ tk1 ≤ 500 ∧ Hid (Xp W gx b1 b2 es ss tk1 l1 wr ∧ ∀ r, Ev es ss (.rep C (t - k)) n tk1 l1 r → Ev es ss (.rep C t) n tk l r)) (fun _ _ x _ => t - (intOf x).toNat)
  case atStart => exact ⟨0, tk, l, Nat.zero_le _, rfl, Nat.le_refl _, htk, Lib.hid ⟨HX.out, fun r q => q⟩⟩
  case round =>
    obtain ⟨k, tk1, l1, hk, rfl, ht1, ht2, J⟩ := hrel
    by_cases hlt : k < t
    · have k0 : (0 : Int) ≤ (k : Int) := by omega
      have k1 : (k : Int) < (t : Int) := by omega
      have HK := Lib.hid (HC.out W wr gx b1 b2 tk1 l1 n _ C (by omega) ht2 J.out.1 HV.out hn21)
      have et : t - k = (t - (k + 1)) + 1 := by omega
      have ET := Lib.hid et; clear et
      go_wp2_with fail
      refine HK.out.mono ?_
      rintro e w2 (⟨x, e1, e2, rfl, e4⟩ | ⟨tk', l', e1, e2, rfl, e4⟩)
      · have HF : Hid (Ev es ss (.rep C t) n tk l (.er x) ∧ x ≠ 0 ∧ Below W.heap.size W w2) := Lib.hid ⟨J.out.2 _ (by rw [ET.out]; exact .rE _ _ _ _ _ _ e1), e2, e4⟩
        have i0 : (x == 0) = false := by simpa using e2
        clear e1 e4 HK J
        go_wp2_with fail
        go_ret
        exact .inl ⟨x, HF.out.1, HF.out.2.1, rfl, HF.out.2.2⟩
      · have HF : Hid (Xp W gx b1 b2 es ss tk' l' w2 ∧ ∀ r, Ev es ss (.rep C (t - (k + 1))) n tk' l' r → Ev es ss (.rep C t) n tk l r) := Lib.hid ⟨e4, fun r q => J.out.2 _ (by rw [ET.out]; exact .rS _ _ _ _ _ _ _ _ e1 q)⟩
        have ht3 : tk ≤ tk' := by omega
        obtain ⟨-, ht4⟩ := e2
        clear e1 e4 HK J ET
        go_wp2_with fail
        go_roundw
        case rel => exact ⟨k + 1, tk', l', by omega, by go_num, ht3, ht4, HF⟩
        case measure => simp [intOf]; omega
    · have k1 : ¬ (k : Int) < (t : Int) := by omega
      obtain rfl : k = t := by omega
      have HF : Hid (Ev es ss (.rep C k) n tk l (.ok tk1 l1)) := Lib.hid (J.out.2 _ (by rw [Nat.sub_self]; exact .r0 _ _ _ _))
      go_wp2_with fail
      go_ret
      exact .inr ⟨tk1, l1, HF.out, ⟨ht1, ht2⟩, rfl, J.out.1⟩
end Go.Proofs.YtjaopjhfjijdaaaDoor
namespace Go.Proofs.YtjaopjhfjijdaaaDoor
open Go.RowKit

/-- How long a slice is. -/
def slen : Value → Nat
  | .slice _ n _ => n
  | _ => 0
theorem NmIn.tail {w : World} {g off n cap : Nat} {c : Int} {cs : List Int} (h : NmIn w (.slice (some ⟨g, off, none⟩) n cap) (c :: cs)) : NmIn w (.slice (if cap = 1 then some (⟨g, off, none⟩ : Addr) else some ⟨g, off + 1, none⟩) cs.length (cap - 1)) cs := by
  obtain ⟨A', cap', e, h2, h3, h4⟩ := h
  injection e with e1 e2 e3
  subst e1; subst e3
  rw [List.length_cons] at e2 h2
  refine ⟨_, cap - 1, rfl, by omega, by omega, fun i hi => ?_⟩
  obtain ⟨g', off', e, hl, hc⟩ := h4 (i + 1) (by simpa using hi)
  injection e with e
  injection e with e1 e2
  subst e1; subst e2
  have hc1 : ¬ cap = 1 := by omega
  rw [if_neg hc1]
  refine ⟨g, off + 1, rfl, hl, ?_⟩
  rw [List.getElem_cons_succ] at hc
  rw [Nat.add_assoc, Nat.add_comm 1 i]
  exact hc
theorem NmIn.rest {w : World} {g off n cap : Nat} {C : List Int} (h : NmIn w (.slice (some ⟨g, off, none⟩) n cap) C) {k : Nat} (hk : k ≤ C.length) : NmIn w (.slice (if cap = k then some (⟨g, off, none⟩ : Addr) else some ⟨g, off + k, none⟩) (C.length - k) (cap - k)) (C.drop k) := by
  obtain ⟨A', cap', e, h2, h3, h4⟩ := h
  injection e with e1 e2 e3
  subst e1; subst e3
  refine ⟨_, cap - k, by rw [List.length_drop], by rw [List.length_drop]; omega, by omega, fun i hi => ?_⟩
  rw [List.length_drop] at hi
  obtain ⟨g', off', e, hl, hc⟩ := h4 (k + i) (by omega)
  injection e with e
  injection e with e1 e2
  subst e1; subst e2
  have hc1 : ¬ cap = k := by omega
  rw [if_neg hc1]
  refine ⟨g, off + k, rfl, hl, ?_⟩
  rw [List.getElem_drop, Nat.add_assoc]
  exact hc
set_option maxRecDepth 100000 in
set_option maxHeartbeats 4000000 in
theorem expand_step (es : List En) (ss : List Sq) (lim : Nat) (hX : lim < 500 → XC es ss (lim + 1)) (hn : (es.map (·.1)).Nodup) (hns : (ss.map (·.1)).Nodup) : XC es ss lim := by
  intro W w gx b1 b2 tk l n v C hlim htk h hv hn21
  have HX := Lib.hid h
  have HC := Lib.hid hX
  have HV := Lib.hid hv
  have HE := Lib.hid hn
  have HS := Lib.hid hns
  obtain ⟨A, cap, rfl, h1, h2, -⟩ := hv
  clear h hX hn hns h1 h2
  go_enter Tryd.func34, Tryd.ntmps34
  go_wp2_with fail
  go_loopw [1, 6, 7, 8, 9, 10] (fun y _ _ _ _ _ wr => ∃ (C1 : List Int) (tk1 : Nat) (l1 : List En), slen y = C1.length ∧ tk ≤ tk1 ∧ tk1 ≤ 500 ∧ Hid (NmIn W y C1 ∧ Xp W gx b1 b2 es ss tk1 l1 wr ∧ ∀ r, Ev es ss (.run C1) n tk1 l1 r → Ev es ss (.run C) n tk l r)) (fun y _ _ _ _ _ _ => slen y)
  case atStart => exact ⟨C, tk, l, rfl, Nat.le_refl _, htk, Lib.hid ⟨HV.out, HX.out, fun r q => q⟩⟩
  case round =>
    obtain ⟨C1, tk1, l1, hs, ht1, ht2, J⟩ := hrel
    cases C1 with
    | nil =>
      obtain ⟨A1, cap1, e1, -⟩ := J.out.1
      have HF : Hid (Ev es ss (.run C) n tk l (.ok tk1 l1)) := Lib.hid (J.out.2.2 _ (.nil _ _ _))
      clear hs
      subst e1
      go_wp2_with fail
      go_ret
      exact .inr ⟨tk1, l1, HF.out, ⟨ht1, ht2⟩, rfl, J.out.2.1⟩
    | cons c cs =>
      obtain ⟨A1, cap1, e1, hle, hcp, hel⟩ := J.out.1
      obtain ⟨g, off, rfl, hg, hc0, hI⟩ := hel 0 (by simp)
      clear hel
      rw [List.length_cons] at e1 hle
      subst e1
      have c0 : wr.cell? ⟨g, off, none⟩ = some (.int .i64 c) := (J.out.2.1.below.cell (p := ⟨g, off, none⟩) hg).trans hc0
      have HIc : Hid (I64 c) := Lib.hid hI
      have HTl := Lib.hid (NmIn.tail J.out.1)
      obtain ⟨v, r, o⟩ := J.out.2.1.row
      obtain ⟨-, -, p2, -⟩ := row4 r
      have f2 := r.thaw 2
      have k0 : (0 : Int) < (cs.length : Int) + 1 := by omega
      clear hc0 hI hs r o hg
      go_upto_region 4 with fail
      generalize (if cap1 = 1 then some (⟨g, off, none⟩ : Addr) else some ⟨g, off + 1, none⟩) = A2 at HTl ⊢
      generalize cap1 - 1 = cap2 at HTl ⊢
      by_cases h500 : 500 ≤ tk1
      · have k1 : (500 : Int) < (tk1 : Int) + 1 := by omega
        have HF : Hid (Ev es ss (.run C) n tk l (.er 2)) := Lib.hid (J.out.2.2 _ (.lim _ _ _ _ _ h500))
        have HB : Hid (Below W.heap.size W (wr.setCell ⟨gx, 2, none⟩ (.int .i64 ((tk1 : Int) + 1)))) := Lib.hid (J.out.2.1.below.setCell (p := ⟨gx, 2, none⟩) J.out.2.1.bx _)
        clear h500
        go_wp2_with fail
        go_ret
        exact .inl ⟨2, HF.out, by decide, rfl, HB.out⟩
      have k1 : ¬ (500 : Int) < (tk1 : Int) + 1 := by omega
      have H5 : Hid (tk1 < 500) := Lib.hid (by omega)
      have X1 : Hid (Xp W gx b1 b2 es ss (tk1 + 1) l1 (wr.setCell ⟨gx, 2, none⟩ (.int .i64 ((tk1 : Int) + 1)))) := Lib.hid (J.out.2.1.tick ht2 rfl)
      have JE := Lib.hid J.out.2.2
      clear J
      go_upto_region 8 with fail
      generalize wr.setCell ⟨gx, 2, none⟩ (.int .i64 ((tk1 : Int) + 1)) = w1 at X1 ⊢
      clear p2 f2 c0 k1 h500
      have HKd := Lib.hid (fun w => kindOf_any c w HIc.out)
      obtain ⟨k, hk⟩ : ∃ k, knd c = k := ⟨_, rfl⟩
      rw [hk] at HKd
      have HK := Lib.hid hk
      have hk4 := knd_all c
      rw [hk] at hk4
      clear hk
      rcases hk4 with rfl | rfl | rfl | rfl
      · have HF : Hid (Ev es ss (.run C) n tk l (.er 1)) := Lib.hid (JE.out _ (.bad _ _ _ _ _ H5.out HK.out))
        go_wp2_with fail
        refine (HKd.out _).mono ?_
        rintro e w2 ⟨rfl, rfl⟩
        go_wp2_with fail
        go_ret
        exact .inl ⟨1, HF.out, by decide, rfl, X1.out.below⟩
      · go_wp2_with fail
        refine (HKd.out _).mono ?_
        rintro e w2 ⟨rfl, rfl⟩
        go_wp2_with fail
        refine (add_any W _ gx b1 b2 es ss (tk1 + 1) l1 c X1.out HE.out HIc.out).mono ?_
        rintro e w2 ⟨r, rfl, ⟨rfl, h1, h2⟩ | ⟨rfl, x, h1, h2, h3⟩ | ⟨rfl, x, h1, h2, h3⟩⟩
        · have HF : Hid (Ev es ss (.run C) n tk l (.er 6) ∧ Below W.heap.size W w2) := Lib.hid ⟨JE.out _ (.entN _ _ _ _ _ H5.out HK.out h1), h2⟩
          clear h1 h2
          go_wp2_with fail
          go_ret
          exact .inl ⟨6, HF.out.1, by decide, rfl, HF.out.2⟩
        · have HF : Hid (Ev es ss (.run C) n tk l (.er 2) ∧ Below W.heap.size W w2) := Lib.hid ⟨JE.out _ (.entL _ _ _ _ _ _ H5.out HK.out h1 h2), h3⟩
          clear h1 h2 h3
          go_wp2_with fail
          go_ret
          exact .inl ⟨2, HF.out.1, by decide, rfl, HF.out.2⟩
        · have HF : Hid (Xp W gx b1 b2 es ss (tk1 + 1) (l1 ++ [x]) w2 ∧ ∀ r, Ev es ss (.run cs) n (tk1 + 1) (l1 ++ [x]) r → Ev es ss (.run C) n tk l r) := Lib.hid ⟨h3, fun r q => JE.out _ (.ent _ _ _ _ _ _ _ H5.out HK.out h1 h2 q)⟩
          clear h1 h2 h3
          go_wp2_with fail
          go_roundw
          case rel => exact ⟨cs, tk1 + 1, _, rfl, by omega, H5.out, Lib.hid ⟨HTl.out, HF.out.1, HF.out.2⟩⟩
          case measure => simp [slen]
      · have HC1 := Lib.hid (HC.out (by have := H5.out; omega))
        go_wp2_with fail
        refine (HKd.out _).mono ?_
        rintro e w2 ⟨rfl, rfl⟩
        go_wp2_with fail
        refine (open_any W _ gx b1 b2 es ss (tk1 + 1) l1 c n (lim + 1) HC1.out (by omega) H5.out X1.out HS.out HIc.out hn21).mono ?_
        rintro e w2 (⟨x, rfl, h1, ⟨rfl, h2⟩ | ⟨rfl, b, h2, h3⟩⟩ | ⟨b, h1, h2, ⟨x, h3, h4, rfl, h5⟩ | ⟨tk', l', h3, h4, rfl, h5⟩⟩)
        · have HF : Hid (Ev es ss (.run C) n tk l (.er 6) ∧ Below W.heap.size W w2) := Lib.hid ⟨JE.out _ (.seqN _ _ _ _ _ H5.out HK.out h2), h1⟩
          clear h1 h2
          go_wp2_with fail
          go_ret
          exact .inl ⟨6, HF.out.1, by decide, rfl, HF.out.2⟩
        · have HF : Hid (Ev es ss (.run C) n tk l (.er 2) ∧ Below W.heap.size W w2) := Lib.hid ⟨JE.out _ (.seqL _ _ _ _ _ _ H5.out HK.out h2 h3), h1⟩
          clear h1 h2 h3
          go_wp2_with fail
          go_ret
          exact .inl ⟨2, HF.out.1, by decide, rfl, HF.out.2⟩
        · have HF : Hid (Ev es ss (.run C) n tk l (.er x) ∧ x ≠ 0 ∧ Below W.heap.size W w2) := Lib.hid ⟨JE.out _ (.seqE _ _ _ _ _ _ _ H5.out HK.out h1 h2 h3), h4, h5⟩
          have i0 : (x == 0) = false := by simpa using h4
          clear h1 h2 h3 h5
          go_wp2_with fail
          go_ret
          exact .inl ⟨x, HF.out.1, HF.out.2.1, rfl, HF.out.2.2⟩
        · have HF : Hid (Xp W gx b1 b2 es ss tk' l' w2 ∧ ∀ r, Ev es ss (.run cs) n tk' l' r → Ev es ss (.run C) n tk l r) := Lib.hid ⟨h5, fun r q => JE.out _ (.seq _ _ _ _ _ _ _ _ _ H5.out HK.out h1 h2 h3 q)⟩
          have HQ : Hid (tk ≤ tk' ∧ tk' ≤ 500) := Lib.hid (by omega)
          clear h1 h2 h3 h4 h5
          go_wp2_with fail
          go_roundw
          case rel => exact ⟨cs, tk', l', rfl, HQ.out.1, HQ.out.2, Lib.hid ⟨HTl.out, HF.out.1, HF.out.2⟩⟩
          case measure => simp [slen]
      · have HC1 := Lib.hid (HC.out (by have := H5.out; omega))
        have RF := Lib.hid (rep_facts HK.out)
        have HRp := Lib.hid (fun w => replication_any c w HIc.out)
        rw [RF.out.2.2.2.2.1, RF.out.2.2.2.2.2.1] at HRp
        obtain ⟨q1, q2, q3, q4, -⟩ := RF.out
        have HCn : Hid (Ev es ss (.run (c :: cs)) n tk1 l1 = Ev es ss (.run (c :: cs)) n tk1 l1) := Lib.hid rfl
        obtain ⟨cn, ecn⟩ : ∃ cn, cnt c = cn := ⟨_, rfl⟩
        obtain ⟨tm, etm⟩ : ∃ tm, tms c = tm := ⟨_, rfl⟩
        have EC := Lib.hid ecn
        have ET := Lib.hid etm
        rw [ecn] at q1 q2 HRp
        rw [etm] at q3 q4 HRp
        clear ecn etm RF HCn
        go_wp2_with fail
        refine (HKd.out _).mono ?_
        rintro e w2 ⟨rfl, rfl⟩
        go_wp2_with fail
        refine (HRp.out _).mono ?_
        rintro e w2 ⟨rfl, rfl⟩
        by_cases hcn : cs.length < cn
        · have i1 : (cs.length : Int) < (cn : Int) := by omega
          have HF : Hid (Ev es ss (.run C) n tk l (.er 11)) := Lib.hid (JE.out _ (.repS _ _ _ _ _ H5.out HK.out (by rw [EC.out]; exact hcn)))
          clear hcn
          go_wp2_with fail
          go_ret
          exact .inl ⟨11, HF.out, by decide, rfl, X1.out.below⟩
        · have i1 : ¬ (cs.length : Int) < (cn : Int) := by omega
          have hcl : cn ≤ cs.length := by omega
          have HL : Hid (cnt c ≤ cs.length) := Lib.hid (by rw [EC.out]; exact hcl)
          obtain ⟨A3, cap3, e3, hle3, hcp3, hel⟩ := HTl.out
          injection e3 with e31 e32 e33
          subst e33
          obtain ⟨g3, off3, e34, -⟩ := hel 0 (by omega)
          have e35 := e31.trans e34
          subst e35
          clear hel e31 e32 e34
          have HRep := Lib.hid (fun w3 (hx : Xp W gx b1 b2 es ss (tk1 + 1) l1 w3) => repeat_any W w3 gx b1 b2 es ss (tk1 + 1) l1 _ _ tm n (lim + 1) HC1.out (by omega) H5.out hx (HTl.out.take hcl) hn21 q4)
          have j0 : (0 : Int) ≤ (cn : Int) := by omega
          have j1 : (cn : Int) ≤ (cs.length : Int) := by omega
          have j2 : (cn : Int) ≤ (cap2 : Int) := by omega
          go_wp2_with fail
          refine (HRep.out _ X1.out).mono ?_
          have HRs := Lib.hid (HTl.out.rest hcl)
          rintro e w2 (⟨x, h3, h4, rfl, h5⟩ | ⟨tk', l', h3, h4, rfl, h5⟩)
          · have HF : Hid (Ev es ss (.run C) n tk l (.er x) ∧ x ≠ 0 ∧ Below W.heap.size W w2) := Lib.hid ⟨JE.out _ (.repE _ _ _ _ _ _ H5.out HK.out HL.out (by rw [EC.out, ET.out]; exact h3)), h4, h5⟩
            have i0 : (x == 0) = false := by simpa using h4
            clear h3 h5
            go_upto_region 20 with fail
            generalize (if cap2 = cn then some (⟨g3, off3, none⟩ : Addr) else some ⟨g3, off3 + cn, none⟩) = A4 at HRs ⊢
            go_wp2_with fail
            go_ret
            exact .inl ⟨x, HF.out.1, HF.out.2.1, rfl, HF.out.2.2⟩
          · have HF : Hid (Xp W gx b1 b2 es ss tk' l' w2 ∧ ∀ r, Ev es ss (.run (cs.drop cn)) n tk' l' r → Ev es ss (.run C) n tk l r) := Lib.hid ⟨h5, fun r q => JE.out _ (.rep _ _ _ _ _ _ _ _ H5.out HK.out HL.out (by rw [EC.out, ET.out]; exact h3) (by rw [EC.out]; exact q))⟩
            have HQ : Hid (tk ≤ tk' ∧ tk' ≤ 500) := Lib.hid (by omega)
            have HQL : Hid (cs.length - cn = (cs.drop cn).length ∧ (cs.drop cn).length < cs.length + 1) := Lib.hid (by rw [List.length_drop]; omega)
            clear h3 h4 h5
            go_upto_region 20 with fail
            generalize (if cap2 = cn then some (⟨g3, off3, none⟩ : Addr) else some ⟨g3, off3 + cn, none⟩) = A4 at HRs ⊢
            go_wp2_with fail
            go_roundw
            case rel => exact ⟨cs.drop cn, tk', l', HQL.out.1, HQ.out.1, HQ.out.2, Lib.hid ⟨HRs.out, HF.out.1, HF.out.2⟩⟩
            case measure => have := HQL.out; simp [slen]; omega
theorem XC_all (es : List En) (ss : List Sq) (hn : (es.map (·.1)).Nodup) (hns : (ss.map (·.1)).Nodup) : ∀ d, d ≤ 500 → XC es ss (500 - d) := by
  intro d
  induction d with
  | zero => exact fun _ => expand_step es ss _ (fun h => by omega) hn hns
  | succ d ih =>
    intro hd
    refine expand_step es ss _ (fun h => ?_) hn hns
    have := ih (by omega)
    rw [show 500 - (d + 1) + 1 = 500 - d by omega]
    exact this
theorem XC_0 (es : List En) (ss : List Sq) (hn : (es.map (·.1)).Nodup) (hns : (ss.map (·.1)).Nodup) : XC es ss 0 := XC_all es ss hn hns 500 (Nat.le_refl _)
end Go.Proofs.YtjaopjhfjijdaaaDoor
