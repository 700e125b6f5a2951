/- Contracts of open, repeat and expand. -/
import Derived.Test.YtjaopjhfjijdaaaDoorAd
namespace Go.Proofs.YtjaopjhfjijdaaaDoor
open Go.RowKit

/-- What an expansion leaves. -/
def XPost (W : World) (gx b1 b2 : Nat) (es : List En) (ss : List Sq) (j : Jb) (n tk : Nat) (l : List En) (e : Ending) (w' : World) : Prop :=
  (∃ x : Int, Ev es ss j n tk l (.er x) ∧ x ≠ 0 ∧ e = .returned (.int .i64 x) ∧ Below W.heap.size W w') ∨ (∃ tk' l', Ev es ss j n tk l (.ok tk' l') ∧ (tk ≤ tk' ∧ tk' ≤ 500) ∧ e = .returned (.int .i64 0) ∧ Xp W gx b1 b2 es ss tk' l' w')
/-- expand serves from so many codes taken on. -/
def XC (es : List En) (ss : List Sq) (lim : Nat) : Prop := ∀ (W w : World) (gx b1 b2 tk : Nat) (l : List En) (n : Nat) (v : Value) (C : List Int), lim ≤ tk → tk ≤ 500 → Xp W gx b1 b2 es ss tk l w → NmIn W v C → n ≤ 21 →
  Calls Tryd.prog 34 #[.pointer (some ⟨gx, 0, none⟩), v, .int .i64 (n : Int)] w (XPost W gx b1 b2 es ss (.run C) n tk l)
/-- What open leaves. -/
def OPost (W : World) (gx b1 b2 : Nat) (es : List En) (ss : List Sq) (c : Int) (n tk : Nat) (l : List En) (e : Ending) (w' : World) : Prop :=
  (∃ x : Int, e = .returned (.int .i64 x) ∧ Below W.heap.size W w' ∧ ((x = 6 ∧ fS ss c = none) ∨ (x = 2 ∧ ∃ b, fS ss c = some b ∧ 20 < n))) ∨ ∃ b, fS ss c = some b ∧ n ≤ 20 ∧ XPost W gx b1 b2 es ss (.run b) (n + 1) tk l e w'
set_option maxRecDepth 100000 in
set_option maxHeartbeats 2000000 in
theorem open_any (W w : World) (gx b1 b2 : Nat) (es : List En) (ss : List Sq) (tk : Nat) (l : List En) (c : Int) (n lim : Nat) (hX : XC es ss lim) (hlim : lim ≤ tk) (htk : tk ≤ 500) (h : Xp W gx b1 b2 es ss tk l w) (hn : (ss.map (·.1)).Nodup) (hI : I64 c) (hn21 : n ≤ 21) :
    Calls Tryd.prog 55 #[.pointer (some ⟨gx, 0, none⟩), .int .i64 c, .int .i64 (n : Int)] w (OPost W gx b1 b2 es ss c n tk l) := by
  have HX := Lib.hid h
  have HC := Lib.hid hX
  obtain ⟨v, r, o⟩ := h.row
  obtain ⟨n1, f, s, m, e⟩ := h.m2
  have hl := m.run_look Tryd.underlying70 (zeroS w) hI
  have R := Lib.hid r
  obtain ⟨-, p1, -, -⟩ := row4 r
  rcases e.find hn c with ⟨hf, hs⟩ | ⟨b, u, hs, hf, hu⟩
  · rw [hf] at hl
    simp only [Option.getD_none, Option.isSome_none] at hl
    have HS := Lib.hid hs
    clear m e h hI hX r o hf hs
    go_enter Tryd.func55, Tryd.ntmps55
    go_wp2_with fail
    go_ret
    exact .inl ⟨6, rfl, HX.out.below.alloc HX.out.below.size _, .inl ⟨rfl, HS.out⟩⟩
  · rw [hf] at hl
    simp only [Option.getD_some, Option.isSome_some] at hl
    have HS := Lib.hid hs
    have HU := Lib.hid hu
    obtain ⟨Au, cu, rfl, -⟩ := hu
    clear m e h hI hX r o hf hs
    have b1' : Below w.heap.size w (w.alloc (.cells #[.int .i64 c, .slice Au b.length cu] 58)) := (Below.refl _ _).alloc (Nat.le_refl _) _
    have r5 := Row.new w #[.int .i64 c, .slice Au b.length cu] 58
    go_enter Tryd.func55, Tryd.ntmps55
    go_upto_region 2 with fail
    have X1 := Lib.hid (HX.out.under b1')
    generalize w.alloc (.cells #[.int .i64 c, .slice Au b.length cu] 58) = W1 at *
    generalize w.heap.size = g5 at r5 ⊢
    clear HX R hl p1 b1'
    obtain ⟨q0, q1⟩ := row2 r5
    clear r5
    by_cases h20 : 20 < n
    · have i1 : (20 : Int) < (n : Int) := by omega
      have HL := Lib.hid h20
      go_wp2_with fail
      go_ret
      exact .inl ⟨2, rfl, X1.out.below, .inr ⟨rfl, _, HS.out, HL.out⟩⟩
    · have i1 : ¬ (20 : Int) < (n : Int) := by omega
      have HL : Hid (n ≤ 20) := Lib.hid (by omega)
      have HK := Lib.hid (HC.out W W1 gx b1 b2 tk l (n + 1) _ b hlim htk X1.out HU.out (by omega))
      rw [show ((n + 1 : Nat) : Int) = (n : Int) + 1 by omega] at HK
      go_wp2_with fail
      refine HK.out.mono ?_
      rintro e w2 hp
      have HP := Lib.hid hp; clear hp
      rcases HP.out with ⟨x, h1, h2, rfl, h4⟩ | ⟨tk', l', h1, h2, rfl, h4⟩
      · clear h1 h2 h4
        go_wp2_with fail
        go_ret
        exact .inr ⟨b, HS.out, HL.out, HP.out⟩
      · clear h1 h2 h4
        go_wp2_with fail
        go_ret
        exact .inr ⟨b, HS.out, HL.out, HP.out⟩
set_option maxRecDepth 100000 in
set_option maxHeartbeats 2000000 in
theorem repeat_any (W w : World) (gx b1 b2 : Nat) (es : List En) (ss : List Sq) (tk : Nat) (l : List En) (v : Value) (C : List Int) (t n lim : Nat) (hX : XC es ss lim) (hlim : lim ≤ tk) (htk : tk ≤ 500) (h : Xp W gx b1 b2 es ss tk l w) (hv : NmIn W v C) (hn21 : n ≤ 21) (ht : t ≤ 20) :
    Calls Tryd.prog 57 #[.pointer (some ⟨gx, 0, none⟩), v, .int .i64 (t : Int), .int .i64 (n : Int)] w (XPost W gx b1 b2 es ss (.rep C t) n tk l) := by
  have HX := Lib.hid h
  have HC := Lib.hid hX
  have HV := Lib.hid hv
  obtain ⟨A, cap, rfl, h1, h2, -⟩ := hv
  clear h hX
  go_enter Tryd.func57, Tryd.ntmps57
  go_wp2_with fail
  go_loopw [8, 9, 11] (fun _ _ x wr => ∃ (k tk1 : Nat) (l1 : List En), k ≤ t ∧ x = .int .i64 k ∧ tk ≤ tk1 ∧ tk1 ≤ 500 ∧ Hid (Xp W gx b1 b2 es ss tk1 l1 wr ∧ ∀ r, Ev es ss (.rep C (t - k)) n tk1 l1 r → Ev es ss (.rep C t) n tk l r)) (fun _ _ x _ => t - (intOf x).toNat)
  case atStart => exact ⟨0, tk, l, Nat.zero_le _, rfl, Nat.le_refl _, htk, Lib.hid ⟨HX.out, fun r q => q⟩⟩
  case round =>
    obtain ⟨k, tk1, l1, hk, rfl, ht1, ht2, J⟩ := hrel
    by_cases hlt : k < t
    · have k0 : (0 : Int) ≤ (k : Int) := by omega
      have k1 : (k : Int) < (t : Int) := by omega
      have HK := Lib.hid (HC.out W wr gx b1 b2 tk1 l1 n _ C (by omega) ht2 J.out.1 HV.out hn21)
      have et : t - k = (t - (k + 1)) + 1 := by omega
      have ET := Lib.hid et; clear et
      go_wp2_with fail
      refine HK.out.mono ?_
      rintro e w2 (⟨x, e1, e2, rfl, e4⟩ | ⟨tk', l', e1, e2, rfl, e4⟩)
      · have HF : Hid (Ev es ss (.rep C t) n tk l (.er x) ∧ x ≠ 0 ∧ Below W.heap.size W w2) := Lib.hid ⟨J.out.2 _ (by rw [ET.out]; exact .rE _ _ _ _ _ _ e1), e2, e4⟩
        have i0 : (x == 0) = false := by simpa using e2
        clear e1 e4 HK J
        go_wp2_with fail
        go_ret
        exact .inl ⟨x, HF.out.1, HF.out.2.1, rfl, HF.out.2.2⟩
      · have HF : Hid (Xp W gx b1 b2 es ss tk' l' w2 ∧ ∀ r, Ev es ss (.rep C (t - (k + 1))) n tk' l' r → Ev es ss (.rep C t) n tk l r) := Lib.hid ⟨e4, fun r q => J.out.2 _ (by rw [ET.out]; exact .rS _ _ _ _ _ _ _ _ e1 q)⟩
        have ht3 : tk ≤ tk' := by omega
        obtain ⟨-, ht4⟩ := e2
        clear e1 e4 HK J ET
        go_wp2_with fail
        go_roundw
        case rel => exact ⟨k + 1, tk', l', by omega, by go_num, ht3, ht4, HF⟩
        case measure => simp [intOf]; omega
    · have k1 : ¬ (k : Int) < (t : Int) := by omega
      obtain rfl : k = t := by omega
      have HF : Hid (Ev es ss (.rep C k) n tk l (.ok tk1 l1)) := Lib.hid (J.out.2 _ (by rw [Nat.sub_self]; exact .r0 _ _ _ _))
      go_wp2_with fail
      go_ret
      exact .inr ⟨tk1, l1, HF.out, ⟨ht1, ht2⟩, rfl, J.out.1⟩
end Go.Proofs.YtjaopjhfjijdaaaDoor
