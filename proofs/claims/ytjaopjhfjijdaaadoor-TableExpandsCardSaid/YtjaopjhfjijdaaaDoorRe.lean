/- The contract of the reference's expand. -/
import Derived.Test.YtjaopjhfjijdaaaDoorRv
import Derived.Test.YtjaopjhfjijdaaaDoorEw
import Derived.Test.YtjaopjhfjijdaaaDoorDt
namespace Go.Proofs.YtjaopjhfjijdaaaDoor
open Go.RowKit

/-- Rows of tables stay. -/
def Tk (w w' : World) : Prop := ∀ g cs, Row w g 25 cs → Row w' g 25 cs
theorem Tk.trans {a b c : World} (h : Tk a b) (k : Tk b c) : Tk a c := fun g cs r => k g cs (h g cs r)
theorem Tk.under {a b c : World} (h : Tk a b) (k : Below b.heap.size b c) : Tk a c := fun g cs r => (h g cs r).under k
/-- What an expansion under way holds: the count of codes, the list of entries. -/
structure Rx (W : World) (gt tk : Nat) (l : List En) (v : Value) (w : World) : Prop where
  below : Below W.heap.size W w
  tl : W.heap.size ≤ gt
  row : Row w gt 3 #[.int .i64 (tk : Int)]
  own : w.ownsRow W.heap.size 47 5 v l.length (rowE l)
  i64 : ∀ e ∈ l, I64 e.1
theorem Rx.under {W w w' : World} {gt tk : Nat} {l : List En} {v : Value} (h : Rx W gt tk l v w) (hb : Below w.heap.size w w') : Rx W gt tk l v w' := ⟨h.below.trans (hb.mono h.below.size), h.tl, h.row.under hb, own_under h.own hb, h.i64⟩
theorem Rx.tick {W w : World} {gt tk : Nat} {l : List En} {v : Value} (h : Rx W gt tk l v w) {x : Int} (hx : x = ((tk + 1 : Nat) : Int)) : Rx W gt (tk + 1) l v (w.setCell ⟨gt, 0, none⟩ (.int .i64 x)) ∧ Tk w (w.setCell ⟨gt, 0, none⟩ (.int .i64 x)) := by
  subst hx
  refine ⟨⟨h.below.setCell (p := ⟨gt, 0, none⟩) h.tl _, h.tl, h.row.put 0 _, h.own.kept grown_put (.inr (Ne.symm (own_ne h.own h.row (by decide)))), h.i64⟩, fun g cs r => r.far (p := ⟨gt, 0, none⟩) (row_ne h.row r (by decide)) _⟩
theorem Rx.app {W w w' : World} {gt tk : Nat} {l : List En} {v v' : Value} (h : Rx W gt tk l v w) {x : En} (hx : I64 x.1) (ho' : w'.ownsRow W.heap.size 47 5 v' (l.length + 1) (rowE l ++ encE x)) (hg : w.grownBy w' v.ownBlock) : Rx W gt tk (l ++ [x]) v' w' ∧ Tk w w' := by
  refine ⟨⟨below_own h.below h.below.size h.own hg, h.tl, h.row.grown hg (own_ne h.own h.row (by decide)), by rw [List.length_append, rowE_snoc]; exact ho', fun e he => ?_⟩, fun g cs r => r.grown hg (own_ne h.own r (by decide))⟩
  rcases List.mem_append.1 he with he | he
  · exact h.i64 e he
  · rw [List.mem_singleton.1 he]; exact hx
/-- What expand leaves. -/
def RPost (W w : World) (gt : Nat) (es : List En) (ss : List Sq) (C : List Int) (n tk : Nat) (l : List En) (e : Ending) (w' : World) : Prop :=
  (∃ x : Int, Ev es ss (.run C) n tk l (.er x) ∧ x ≠ 0 ∧ e = .returned (.tuple #[.slice none 0 0, .int .i64 x]) ∧ Below W.heap.size W w' ∧ Tk w w') ∨ (∃ tk' l' v', Ev es ss (.run C) n tk l (.ok tk' l') ∧ (tk ≤ tk' ∧ tk' ≤ 500) ∧ e = .returned (.tuple #[v', .int .i64 0]) ∧ Rx W gt tk' l' v' w' ∧ Tk w w')
/-- expand serves from so many codes taken on. -/
def RC (ver : Int) (es : List En) (ss : List Sq) (lim : Nat) : Prop := ∀ (W w : World) (gt tk : Nat) (l : List En) (n : Nat) (tv v cv : Value) (C : List Int), lim ≤ tk → tk ≤ 500 → TbIn W tv ver es ss → Rx W gt tk l v w → l.length ≤ 60 → NmIn W cv C → C.length ≤ 1000 → (∀ s ∈ ss, s.2.length ≤ 20) → n ≤ 21 →
  Calls Tryd.prog 35 #[tv, cv, .int .i64 (n : Int), .pointer (some ⟨gt, 0, none⟩), v] w (RPost W w gt es ss C n tk l)
theorem SqIn.elem2 {w Y : World} {A : Option Addr} {n cap : Nat} {ss : List Sq} (h : SqIn w (.slice A n cap) ss) (hb : Below w.heap.size w Y) {i : Nat} (hi : i < ss.length) : ∃ g off B c, A = some ⟨g, off, none⟩ ∧ Y.cell? ⟨g, off + i * 2, none⟩ = some (.int .i64 (ss[i]).1) ∧ Y.cell? ⟨g, off + i * 2 + 1, none⟩ = some (.slice B (ss[i]).2.length c) ∧ NmIn w (.slice B (ss[i]).2.length c) (ss[i]).2 ∧ I64 (ss[i]).1 := by
  obtain ⟨A', c, e, -, -, h4⟩ := h
  injection e with e
  subst e
  obtain ⟨g, off, u, a, b, c, d, e, f⟩ := h4 i hi
  obtain ⟨B, cc, eu, -⟩ := id e
  subst eu
  exact ⟨g, off, B, cc, a, (hb.cell (p := ⟨g, off + i * 2, none⟩) b).trans c, (hb.cell (p := ⟨g, off + i * 2 + 1, none⟩) b).trans d, e, f⟩
theorem fE_none {es : List En} {c : Int} (h : ∀ j (hj : j < es.length), (es[j]).1 ≠ c) : fE es c = none := List.find?_eq_none.2 fun e he q => all_mem (p := fun e : En => e.1 ≠ c) h e he (by simpa using q)
theorem find_at {α : Type} {f : α → Int} : ∀ (L : List α) (c : Int) (j : Nat) (hj : j < L.length), (L.map f).Nodup → f L[j] = c → L.find? (fun e => f e == c) = some L[j]
  | x :: r, c, 0, _, _, h => by
    have h : f x = c := h
    rw [List.find?_cons, h]
    simp
  | x :: r, c, j + 1, hj, hn, h => by
    have hj' : j < r.length := by simpa using hj
    have h : f r[j] = c := h
    rw [List.map_cons, List.nodup_cons] at hn
    have hx : ¬ f x = c := fun q => hn.1 (by rw [q, ← h]; exact List.mem_map.2 ⟨_, List.getElem_mem _, rfl⟩)
    rw [List.find?_cons, show (f x == c) = false by simpa using hx]
    exact find_at r c j (by simpa using hj) hn.2 h
theorem fE_at {es : List En} (hn : (es.map (·.1)).Nodup) {j : Nat} (hj : j < es.length) : fE es (es[j]).1 = some es[j] := find_at es _ j hj hn rfl
theorem fS_none {ss : List Sq} {c : Int} (h : ∀ j (hj : j < ss.length), (ss[j]).1 ≠ c) : fS ss c = none := by
  unfold fS
  rw [List.find?_eq_none.2 fun e he q => all_mem (p := fun e : Sq => e.1 ≠ c) h e he (by simpa using q)]
  rfl
theorem fS_at {ss : List Sq} (hn : (ss.map (·.1)).Nodup) {j : Nat} (hj : j < ss.length) : fS ss (ss[j]).1 = some (ss[j]).2 := by
  unfold fS
  rw [find_at ss _ j hj hn rfl]
  rfl
theorem two_of {α : Type} {L : List α} {f : α → Int} (hn : (L.map f).Nodup) {i j : Nat} (hi : i < L.length) (hj : j < L.length) (hij : j < i) : f L[i] ≠ f L[j] := fun q => nodup_not hi hj hij q hn
set_option maxRecDepth 100000 in
set_option maxHeartbeats 4000000 in
theorem refExpand_step (ver : Int) (es : List En) (ss : List Sq) (lim : Nat) (hX : lim < 500 → RC ver es ss (lim + 1)) (hn : (es.map (·.1)).Nodup) (hns : (ss.map (·.1)).Nodup) (hel : es.length ≤ 40) (hsl : ss.length ≤ 40) : RC ver es ss lim := by
  intro W w gt tk l n tv v cv C hlim htk hT h hl60 hv hC1 hS20 hn21
  have HX := Lib.hid h
  have HC := Lib.hid hX
  have HV := Lib.hid hv
  have HNE := Lib.hid hn
  have HNS := Lib.hid hns
  have HTB := Lib.hid hT
  have H20 := Lib.hid hS20
  obtain ⟨a, b, rfl, hE, hS⟩ := hT
  have HE := Lib.hid hE
  have HS := Lib.hid hS
  obtain ⟨A, cap, rfl, -, -, -⟩ := hE
  obtain ⟨B, cbp, rfl, -, -, -⟩ := hS
  obtain ⟨Ac, cc, rfl, hc1, hc2, -⟩ := hv
  obtain ⟨i0, hi, hz0, hz1, hz2⟩ := info_parts infoEntry
  have hb5 : Below w.heap.size w (w.alloc (.cells #[.int .i64 ver, .slice A es.length cap, .slice B ss.length cbp] 25)) := (Below.refl _ _).alloc (Nat.le_refl _) _
  have HJ0 : Hid (Rx W gt tk l v (w.alloc (.cells #[.int .i64 ver, .slice A es.length cap, .slice B ss.length cbp] 25)) ∧ Row (w.alloc (.cells #[.int .i64 ver, .slice A es.length cap, .slice B ss.length cbp] 25)) w.heap.size 25 #[.int .i64 ver, .slice A es.length cap, .slice B ss.length cbp] ∧ Tk w (w.alloc (.cells #[.int .i64 ver, .slice A es.length cap, .slice B ss.length cbp] 25))) := Lib.hid ⟨h.under hb5, Row.new _ _ _, fun g cs r => r.under hb5⟩
  clear h hX hn hns hb5
  go_enter Tryd.func35, Tryd.ntmps35
  go_upto_region 1 with fail
  refine forget (fun Y => Hid (Rx W gt tk l v Y ∧ Row Y w.heap.size 25 #[.int .i64 ver, .slice A es.length cap, .slice B ss.length cbp] ∧ Tk w Y)) HJ0 ?_
  clear HJ0
  obtain ⟨g5, e5⟩ : ∃ g, w.heap.size = g := ⟨_, rfl⟩
  rw [e5]
  clear e5
  intro Y0 HJ
  go_wp2_with fail
  go_loopw [4, 12] (fun y t wr => ∃ (i tk1 : Nat) (l1 : List En), t = .int .i64 i ∧ i ≤ C.length ∧ tk ≤ tk1 ∧ tk1 ≤ 500 ∧ Hid ((Rx W gt tk1 l1 y wr ∧ Row wr g5 25 #[.int .i64 ver, .slice A es.length cap, .slice B ss.length cbp] ∧ Tk w wr) ∧ l1.length ≤ 60 ∧ ∀ r, Ev es ss (.run (C.drop i)) n tk1 l1 r → Ev es ss (.run C) n tk l r)) (fun _ t _ => C.length - (intOf t).toNat)
  case atStart => exact ⟨0, tk, l, rfl, Nat.zero_le _, Nat.le_refl _, htk, Lib.hid ⟨HJ.out, hl60, fun r q => q⟩⟩
  case round =>
    clear HJ HX
    obtain ⟨i, tk1, l1, rfl, hi1, ht1, ht2, J⟩ := hrel
    obtain ⟨Al, cl, ev⟩ := sl_of J.out.1.1.own
    subst ev
    by_cases hlt : i < C.length
    case neg =>
      have k1 : ¬ (i : Int) < (C.length : Int) := by omega
      have HF : Hid (Ev es ss (.run C) n tk l (.ok tk1 l1)) := Lib.hid (J.out.2.2 _ (by rw [List.drop_of_length_le (by omega)]; exact .nil _ _ _))
      clear hlt
      go_wp2_with fail
      go_ret2
      exact .inr ⟨tk1, l1, _, HF.out, ⟨ht1, ht2⟩, rfl, J.out.1.1, J.out.1.2.2⟩
    obtain ⟨g, off, rfl, c0, hI⟩ := (HV.out.under J.out.1.1.below).elem hlt
    obtain ⟨c, hc⟩ : ∃ c, C[i] = c := ⟨_, rfl⟩
    rw [hc] at c0 hI
    have HCd : Hid (C.drop i = c :: C.drop (i + 1)) := Lib.hid (by rw [List.drop_eq_getElem_cons hlt, hc])
    have HIc := Lib.hid hI
    have k0 : (0 : Int) ≤ (i : Int) := by omega
    have k1 : (i : Int) < (C.length : Int) := by omega
    have p0 : wr.cell? ⟨gt, 0, none⟩ = some (.int .i64 (tk1 : Int)) := (J.out.1.1.row.cell 0).trans rfl
    have f0 := J.out.1.1.row.thaw 0
    clear hc hI
    go_upto_region 6 with fail
    by_cases h500 : 500 ≤ tk1
    · have k2 : (500 : Int) < (tk1 : Int) + 1 := by omega
      have HB : Hid (Below W.heap.size W (wr.setCell ⟨gt, 0, none⟩ (.int .i64 ((tk1 : Int) + 1))) ∧ Tk w (wr.setCell ⟨gt, 0, none⟩ (.int .i64 ((tk1 : Int) + 1)))) := Lib.hid ⟨J.out.1.1.below.setCell (p := ⟨gt, 0, none⟩) J.out.1.1.tl _, J.out.1.2.2.trans (J.out.1.1.tick (x := (tk1 : Int) + 1) (by omega)).2⟩
      have HF : Hid (Ev es ss (.run C) n tk l (.er 2)) := Lib.hid (J.out.2.2 _ (by rw [HCd.out]; exact .lim _ _ _ _ _ h500))
      go_wp2_with fail
      go_ret2
      exact .inl ⟨2, HF.out, by first | decide | assumption, rfl, HB.out⟩
    have k2 : ¬ (500 : Int) < (tk1 : Int) + 1 := by omega
    have H5 : Hid (tk1 < 500) := Lib.hid (by omega)
    have htick := J.out.1.1.tick (x := (tk1 : Int) + 1) (by omega)
    have X1 : Hid ((Rx W gt (tk1 + 1) l1 (.slice Al l1.length cl) (wr.setCell ⟨gt, 0, none⟩ (.int .i64 ((tk1 : Int) + 1))) ∧ Row (wr.setCell ⟨gt, 0, none⟩ (.int .i64 ((tk1 : Int) + 1))) g5 25 #[.int .i64 ver, .slice A es.length cap, .slice B ss.length cbp] ∧ Tk w (wr.setCell ⟨gt, 0, none⟩ (.int .i64 ((tk1 : Int) + 1))))) := Lib.hid ⟨htick.1, htick.2 _ _ J.out.1.2.1, J.out.1.2.2.trans htick.2⟩
    have JE : Hid (l1.length ≤ 60 ∧ ∀ r, Ev es ss (.run (c :: C.drop (i + 1))) n tk1 l1 r → Ev es ss (.run C) n tk l r) := Lib.hid ⟨J.out.2.1, fun r q => J.out.2.2 r (by rw [HCd.out]; exact q)⟩
    clear J htick h500 HCd
    go_upto_region 8 with fail
    generalize wr.setCell ⟨gt, 0, none⟩ (.int .i64 ((tk1 : Int) + 1)) = w1 at X1 ⊢
    clear p0 f0 c0 k2
    have HKd := Lib.hid (fun w => refKind_any c w HIc.out)
    obtain ⟨k, hk⟩ : ∃ k, knd c = k := ⟨_, rfl⟩
    rw [hk] at HKd
    have HK := Lib.hid hk
    have hk4 := knd_all c
    rw [hk] at hk4
    clear hk
    go_wp2_with fail
    refine (HKd.out _).mono ?_
    rintro e w2 ⟨rfl, rfl⟩
    clear HKd
    rcases hk4 with rfl | rfl | rfl | rfl
    · have HB : Hid (Below W.heap.size W w1 ∧ Tk w w1) := Lib.hid ⟨X1.out.1.below, X1.out.2.2⟩
      have HF : Hid (Ev es ss (.run C) n tk l (.er 1)) := Lib.hid (JE.out.2 _ (.bad _ _ _ _ _ H5.out HK.out))
      go_wp2_with fail
      go_ret2
      exact .inl ⟨1, HF.out, by first | decide | assumption, rfl, HB.out⟩
    · obtain ⟨q0, q1, q2⟩ := row3 X1.out.2.1
      go_wp2_with fail
      clear q0 q1 q2
      go_loopw [4, 14, 95] (fun y f t wr => ∃ (k : Nat) (p : Bool) (l' : List En), f = .bool p ∧ t = .int .i64 k ∧ k ≤ es.length ∧ Hid ((Rx W gt (tk1 + 1) l' y wr ∧ Row wr g5 25 #[.int .i64 ver, .slice A es.length cap, .slice B ss.length cbp] ∧ Tk w wr) ∧ ((p = false ∧ l' = l1 ∧ ∀ j (hj : j < es.length), j < k → (es[j]).1 ≠ c) ∨ (p = true ∧ ∃ j, ∃ hj : j < es.length, j < k ∧ (es[j]).1 = c ∧ l' = l1 ++ [es[j]])))) (fun _ _ t _ => es.length - (intOf t).toNat)
      case atStart => exact ⟨0, false, l1, rfl, rfl, Nat.zero_le _, Lib.hid ⟨X1.out, .inl ⟨rfl, rfl, fun j _ q => absurd q (Nat.not_lt_zero _)⟩⟩⟩
      case round =>
        clear X1
        obtain ⟨k, p, l', rfl, rfl, hk, X⟩ := hrel
        obtain ⟨A4, c4, ev⟩ := sl_of X.out.1.1.own
        subst ev
        by_cases hlk : k < es.length
        · have k2 : (0 : Int) ≤ (k : Int) := by omega
          have k3 : (k : Int) < (es.length : Int) := by omega
          obtain ⟨g2, off2, rfl, hA5, hI2⟩ := HE.out.elem X.out.1.1.below hlk
          obtain ⟨x, hx⟩ : ∃ x, es[k] = x := ⟨_, rfl⟩
          rw [hx] at hA5 hI2
          have HX1 := Lib.hid hx
          have HI2 := Lib.hid hI2
          obtain ⟨c0, c1, c2, c3, c5⟩ := hA5
          clear hx hI2
          go_upto_region 27 with fail
          have hb := (Below.refl wr.heap.size wr).alloc (Nat.le_refl _) (.cells #[.int .i64 x.1, .int .i64 x.2.1, .int .i64 x.2.2.1, .int .i64 x.2.2.2.1, .int .i64 x.2.2.2.2] 47)
          have HQ := Lib.hid X.out.2
          have HA : Hid ((Rx W gt (tk1 + 1) l' (.slice A4 l'.length c4) (wr.alloc (.cells #[.int .i64 x.1, .int .i64 x.2.1, .int .i64 x.2.2.1, .int .i64 x.2.2.2.1, .int .i64 x.2.2.2.2] 47)) ∧ Row (wr.alloc (.cells #[.int .i64 x.1, .int .i64 x.2.1, .int .i64 x.2.2.1, .int .i64 x.2.2.2.1, .int .i64 x.2.2.2.2] 47)) g5 25 #[.int .i64 ver, .slice _ es.length cap, .slice _ ss.length cbp] ∧ Tk w (wr.alloc (.cells #[.int .i64 x.1, .int .i64 x.2.1, .int .i64 x.2.2.1, .int .i64 x.2.2.2.1, .int .i64 x.2.2.2.2] 47))) ∧ Row (wr.alloc (.cells #[.int .i64 x.1, .int .i64 x.2.1, .int .i64 x.2.2.1, .int .i64 x.2.2.2.1, .int .i64 x.2.2.2.2] 47)) wr.heap.size 47 #[.int .i64 x.1, .int .i64 x.2.1, .int .i64 x.2.2.1, .int .i64 x.2.2.2.1, .int .i64 x.2.2.2.2]) := Lib.hid ⟨⟨X.out.1.1.under hb, X.out.1.2.1.under hb, X.out.1.2.2.under hb⟩, Row.new _ _ _⟩
          refine forget (fun V => Hid ((Rx W gt (tk1 + 1) l' (.slice A4 l'.length c4) V ∧ Row V g5 25 #[.int .i64 ver, .slice _ es.length cap, .slice _ ss.length cbp] ∧ Tk w V) ∧ Row V wr.heap.size 47 #[.int .i64 x.1, .int .i64 x.2.1, .int .i64 x.2.2.1, .int .i64 x.2.2.2.1, .int .i64 x.2.2.2.2])) HA ?_
          clear HA X hb c0 c1 c2 c3 c5
          generalize wr.heap.size = g16
          intro V X
          obtain ⟨z0, z1, z2, z3, z4⟩ := row5 X.out.2
          by_cases hq : x.1 = c
          · have e1 : (x.1 == c) = true := by simpa using hq
            have hp : p = false ∧ l' = l1 := by
              rcases HQ.out with ⟨q1, q2, -⟩ | ⟨-, j, hj, hjk, q, -⟩
              · exact ⟨q1, q2⟩
              · exact absurd (by rw [HX1.out, hq, q]) (two_of (f := fun e : En => e.1) HNE.out hlk hj hjk)
            obtain ⟨rfl, rfl⟩ := hp
            have N1 := Lib.hid (At5.row (e := x) (Row.new V #[.int .i64 x.1, .int .i64 x.2.1, .int .i64 x.2.2.1, .int .i64 x.2.2.2.1, .int .i64 x.2.2.2.2] 47))
            have hb := (Below.refl V.heap.size V).alloc (Nat.le_refl _) (.cells #[.int .i64 x.1, .int .i64 x.2.1, .int .i64 x.2.2.1, .int .i64 x.2.2.2.1, .int .i64 x.2.2.2.2] 47)
            have Y := Lib.hid (⟨X.out.1.1.under hb, X.out.1.2.1.under hb, X.out.1.2.2.under hb⟩ : (Rx W gt (tk1 + 1) l' (.slice A4 l'.length c4) (V.alloc (.cells #[.int .i64 x.1, .int .i64 x.2.1, .int .i64 x.2.2.1, .int .i64 x.2.2.2.1, .int .i64 x.2.2.2.2] 47)) ∧ Row (V.alloc (.cells #[.int .i64 x.1, .int .i64 x.2.1, .int .i64 x.2.2.1, .int .i64 x.2.2.2.1, .int .i64 x.2.2.2.2] 47)) g5 25 #[.int .i64 ver, .slice _ es.length cap, .slice _ ss.length cbp] ∧ Tk w (V.alloc (.cells #[.int .i64 x.1, .int .i64 x.2.1, .int .i64 x.2.2.1, .int .i64 x.2.2.2.1, .int .i64 x.2.2.2.2] 47))))
            have hl6 : l'.length ≤ 60 := JE.out.1
            have HQQ := Lib.hid hq
            clear hb X hq
            go_wp2_with (at_builtin; go_loud (refine wpList_append_own' rfl (.tmp 103) (.tmp 105) 22 rfl W.heap.size 47 i0 _ 5 40 Tryd.underlying22 hi hz0 hz1 hz2 rfl (by decide) (.slice A4 l'.length c4) l'.length (rowE l') rfl Y.out.1.own ⟨V.heap.size, 0, none⟩ 1 1 (encE x) rfl rfl (encE_at N1.out) (encE_one _) (by unfold maxLen; omega) (by omega) Y.out.1.below.size ?_; intro v' w4 ho' hg; have HA := Lib.hid (Y.out.1.app HI2.out ho' hg); clear ho' hg))
            have HF : Hid ((Rx W gt (tk1 + 1) (l' ++ [x]) v' w4 ∧ Row w4 g5 25 #[.int .i64 ver, .slice _ es.length cap, .slice _ ss.length cbp] ∧ Tk w w4) ∧ ((true = false ∧ l' ++ [x] = l' ∧ ∀ j (hj : j < es.length), j < k + 1 → (es[j]).1 ≠ c) ∨ (true = true ∧ ∃ j, ∃ hj : j < es.length, j < k + 1 ∧ (es[j]).1 = c ∧ l' ++ [x] = l' ++ [es[j]]))) := Lib.hid ⟨⟨HA.out.1, HA.out.2 _ _ Y.out.2.1, Y.out.2.2.trans HA.out.2⟩, .inr ⟨rfl, k, hlk, by omega, by rw [HX1.out, HQQ.out], by rw [HX1.out]⟩⟩
            clear HA Y z0 z1 z2 z3 z4 HQQ HQ
            go_wp2_with fail
            go_roundw
            case rel => exact ⟨k + 1, true, _, rfl, by go_num, by omega, HF⟩
            case measure => simp [intOf]; omega
          · have e1 : (x.1 == c) = false := by simpa using hq
            have HF : Hid ((Rx W gt (tk1 + 1) l' (.slice A4 l'.length c4) V ∧ Row V g5 25 #[.int .i64 ver, .slice _ es.length cap, .slice _ ss.length cbp] ∧ Tk w V) ∧ ((p = false ∧ l' = l1 ∧ ∀ j (hj : j < es.length), j < k + 1 → (es[j]).1 ≠ c) ∨ (p = true ∧ ∃ j, ∃ hj : j < es.length, j < k + 1 ∧ (es[j]).1 = c ∧ l' = l1 ++ [es[j]]))) := Lib.hid ⟨X.out.1, HQ.out.imp (fun q => ⟨q.1, q.2.1, fun j hj hjk => by
              by_cases e : j = k
              · subst e; rw [HX1.out]; exact hq
              · exact q.2.2 j hj (by omega)⟩) (fun ⟨q, j, hj, hjk, q2⟩ => ⟨q, j, hj, by omega, q2⟩)⟩
            clear hq X HQ
            go_wp2_with fail
            go_roundw
            case rel => exact ⟨k + 1, p, l', rfl, by go_num, by omega, HF⟩
            case measure => simp [intOf]; omega
        · have k3 : ¬ (k : Int) < (es.length : Int) := by omega
          have HQ := Lib.hid X.out.2
          have X1 := Lib.hid X.out.1
          clear X
          cases p with
          | false =>
            have HF : Hid (Ev es ss (.run C) n tk l (.er 6) ∧ Below W.heap.size W wr ∧ Tk w wr) := Lib.hid ⟨JE.out.2 _ (.entN _ _ _ _ _ H5.out HK.out (fE_none fun j hj => by
              rcases HQ.out with ⟨-, -, q⟩ | ⟨q, -⟩
              · exact q j hj (by omega)
              · cases q)), X1.out.1.below, X1.out.2.2⟩
            clear HQ X1
            go_wp2_with fail
            go_ret2
            exact .inl ⟨6, HF.out.1, by decide, rfl, HF.out.2⟩
          | true =>
            obtain ⟨x, hx, hl'⟩ : ∃ x, fE es c = some x ∧ l' = l1 ++ [x] := by
              rcases HQ.out with ⟨q, -⟩ | ⟨-, j, hj, -, q1, q2⟩
              · cases q
              · exact ⟨_, by rw [← q1]; exact fE_at HNE.out hj, q2⟩
            have hlen : l'.length = l1.length + 1 := by rw [hl']; simp
            have hl6 : l1.length ≤ 60 := JE.out.1
            have HX2 := Lib.hid hx
            clear HQ hx
            by_cases h60 : 60 ≤ l1.length
            · have m1 : (60 : Int) < (l'.length : Int) := by omega
              have HF : Hid (Ev es ss (.run C) n tk l (.er 2) ∧ Below W.heap.size W wr ∧ Tk w wr) := Lib.hid ⟨JE.out.2 _ (.entL _ _ _ _ _ _ H5.out HK.out HX2.out h60), X1.out.1.below, X1.out.2.2⟩
              clear X1 hlen h60 hl'
              go_wp2_with fail
              go_ret2
              exact .inl ⟨2, HF.out.1, by decide, rfl, HF.out.2⟩
            · have m1 : ¬ (60 : Int) < (l'.length : Int) := by omega
              have HF : Hid ((Rx W gt (tk1 + 1) l' (.slice A4 l'.length c4) wr ∧ Row wr g5 25 #[.int .i64 ver, .slice A es.length cap, .slice B ss.length cbp] ∧ Tk w wr) ∧ l'.length ≤ 60 ∧ ∀ r, Ev es ss (.run (C.drop (i + 1))) n (tk1 + 1) l' r → Ev es ss (.run C) n tk l r) := Lib.hid ⟨X1.out, by omega, fun r q => JE.out.2 _ (.ent _ _ _ _ _ _ _ H5.out HK.out HX2.out (by omega) (by rw [hl'] at q; exact q))⟩
              clear X1 hlen h60 hl'
              have h5 := H5.out
              go_wp2_with fail
              go_roundw
              case rel => exact ⟨i + 1, tk1 + 1, l', by go_num, by omega, by omega, by omega, HF⟩
              case measure => simp [intOf]; omega
    · obtain ⟨q0, q1, q2⟩ := row3 X1.out.2.1
      have h5' := H5.out
      go_wp2_with fail
      clear q0 q1 q2
      go_loopw [4, 17, 118] (fun y f t wr => ∃ (k tk' : Nat) (p : Bool) (l' : List En), f = .bool p ∧ t = .int .i64 k ∧ k ≤ ss.length ∧ tk1 + 1 ≤ tk' ∧ tk' ≤ 500 ∧ Hid ((Rx W gt tk' l' y wr ∧ Row wr g5 25 #[.int .i64 ver, .slice A es.length cap, .slice B ss.length cbp] ∧ Tk w wr) ∧ l'.length ≤ 60 ∧ ((p = false ∧ tk' = tk1 + 1 ∧ l' = l1 ∧ ∀ j (hj : j < ss.length), j < k → (ss[j]).1 ≠ c) ∨ (p = true ∧ n ≤ 20 ∧ ∃ j, ∃ hj : j < ss.length, j < k ∧ (ss[j]).1 = c ∧ Ev es ss (.run (ss[j]).2) (n + 1) (tk1 + 1) l1 (.ok tk' l'))))) (fun _ _ t _ => ss.length - (intOf t).toNat)
      case atStart => exact ⟨0, tk1 + 1, false, l1, rfl, rfl, Nat.zero_le _, Nat.le_refl _, by omega, Lib.hid ⟨X1.out, JE.out.1, .inl ⟨rfl, rfl, rfl, fun j _ q => absurd q (Nat.not_lt_zero _)⟩⟩⟩
      case round =>
        clear X1
        obtain ⟨k, tk', p, l', rfl, rfl, hk, ht3, ht4, X⟩ := hrel
        obtain ⟨A4, c4, ev⟩ := sl_of X.out.1.1.own
        subst ev
        by_cases hlk : k < ss.length
        · have k2 : (0 : Int) ≤ (k : Int) := by omega
          have k3 : (k : Int) < (ss.length : Int) := by omega
          obtain ⟨g2, off2, Bc, cc2, rfl, c0, c1, hnm, hI2⟩ := HS.out.elem2 X.out.1.1.below hlk
          have hlb := H20.out _ (List.getElem_mem hlk)
          obtain ⟨sc, hsc⟩ : ∃ x, (ss[k]).1 = x := ⟨_, rfl⟩
          obtain ⟨sb, hsb⟩ : ∃ x, (ss[k]).2 = x := ⟨_, rfl⟩
          rw [hsc] at c0 hI2
          rw [hsb] at c1 hnm hlb
          have HX1 := Lib.hid hsc
          have HX2 := Lib.hid hsb
          have HNM := Lib.hid hnm
          clear hsc hsb hI2 hnm
          go_upto_region 39 with fail
          have hb := (Below.refl wr.heap.size wr).alloc (Nat.le_refl _) (.cells #[.int .i64 sc, .slice Bc sb.length cc2] 58)
          have HQ := Lib.hid X.out.2
          have HA : Hid ((Rx W gt tk' l' (.slice A4 l'.length c4) (wr.alloc (.cells #[.int .i64 sc, .slice Bc sb.length cc2] 58)) ∧ Row (wr.alloc (.cells #[.int .i64 sc, .slice Bc sb.length cc2] 58)) g5 25 #[.int .i64 ver, .slice _ es.length cap, .slice _ ss.length cbp] ∧ Tk w (wr.alloc (.cells #[.int .i64 sc, .slice Bc sb.length cc2] 58))) ∧ Row (wr.alloc (.cells #[.int .i64 sc, .slice Bc sb.length cc2] 58)) wr.heap.size 58 #[.int .i64 sc, .slice Bc sb.length cc2]) := Lib.hid ⟨⟨X.out.1.1.under hb, X.out.1.2.1.under hb, X.out.1.2.2.under hb⟩, Row.new _ _ _⟩
          refine forget (fun V => Hid ((Rx W gt tk' l' (.slice A4 l'.length c4) V ∧ Row V g5 25 #[.int .i64 ver, .slice _ es.length cap, .slice _ ss.length cbp] ∧ Tk w V) ∧ Row V wr.heap.size 58 #[.int .i64 sc, .slice Bc sb.length cc2])) HA ?_
          clear HA X hb c0 c1
          generalize wr.heap.size = g19
          intro V X
          obtain ⟨z0, z1⟩ := row2 X.out.2
          by_cases hq : sc = c
          · have e1 : (sc == c) = true := by simpa using hq
            have hp : p = false ∧ tk' = tk1 + 1 ∧ l' = l1 := by
              rcases HQ.out.2 with ⟨q1, q2, q3, -⟩ | ⟨-, -, j, hj, hjk, q, -⟩
              · exact ⟨q1, q2, q3⟩
              · exact absurd (by rw [HX1.out, hq, q]) (two_of (f := fun e : Sq => e.1) HNS.out hlk hj hjk)
            obtain ⟨rfl, rfl, rfl⟩ := hp
            have HFs : Hid (fS ss c = some sb) := Lib.hid (by rw [← hq, ← HX1.out, ← HX2.out]; exact fS_at HNS.out hlk)
            have HQQ := Lib.hid hq
            clear hq
            by_cases hn20 : 20 < n
            · have m1 : (20 : Int) < (n : Int) := by omega
              have HB : Hid (Below W.heap.size W V ∧ Tk w V) := Lib.hid ⟨X.out.1.1.below, X.out.1.2.2⟩
              have HF : Hid (Ev es ss (.run C) n tk l (.er 2)) := Lib.hid (JE.out.2 _ (.seqL _ _ _ _ _ _ H5.out HK.out HFs.out hn20))
              go_wp2_with fail
              go_ret2
              exact .inl ⟨2, HF.out, by first | decide | assumption, rfl, HB.out⟩
            · have m1 : ¬ (20 : Int) < (n : Int) := by omega
              have hcall := HC.out (by omega) W V gt (tk1 + 1) l' (n + 1) _ _ _ sb (by omega) (by omega) HTB.out X.out.1.1 JE.out.1 HNM.out (by omega) H20.out (by omega)
              rw [show (((n + 1 : Nat)) : Int) = (n : Int) + 1 from Int.natCast_succ n] at hcall
              have HCall := Lib.hid hcall
              clear hcall
              obtain ⟨q0, q1, q2⟩ := row3 X.out.1.2.1
              go_wp2_with fail
              refine HCall.out.mono ?_
              clear HCall
              rintro e w4 (⟨x, h3, h4, rfl, h5⟩ | ⟨tk2, l2, v2, h3, h4, rfl, h5, h6⟩)
              · have HF : Hid (Ev es ss (.run C) n tk l (.er x) ∧ x ≠ 0 ∧ Below W.heap.size W w4 ∧ Tk w w4) := Lib.hid ⟨JE.out.2 _ (.seqE _ _ _ _ _ _ _ H5.out HK.out HFs.out (by omega) h3), h4, h5.1, X.out.1.2.2.trans h5.2⟩
                have j0 : (x == 0) = false := by simpa using h4
                clear h3 h4 h5 X q0 q1 q2 z0 z1
                go_wp2_with fail
                go_ret2
                exact .inl ⟨x, HF.out.1, HF.out.2.1, rfl, HF.out.2.2⟩
              · have HF : Hid ((Rx W gt tk2 l2 v2 w4 ∧ Row w4 g5 25 #[.int .i64 ver, .slice _ es.length cap, .slice _ ss.length cbp] ∧ Tk w w4) ∧ l2.length ≤ 60 ∧ ((true = false ∧ tk2 = tk1 + 1 ∧ l2 = l' ∧ ∀ j (hj : j < ss.length), j < k + 1 → (ss[j]).1 ≠ c) ∨ (true = true ∧ n ≤ 20 ∧ ∃ j, ∃ hj : j < ss.length, j < k + 1 ∧ (ss[j]).1 = c ∧ Ev es ss (.run (ss[j]).2) (n + 1) (tk1 + 1) l' (.ok tk2 l2)))) := Lib.hid ⟨⟨h5, h6 _ _ X.out.1.2.1, X.out.1.2.2.trans h6⟩, h3.le60 JE.out.1 _ _ rfl, .inr ⟨rfl, by omega, k, hlk, by omega, by rw [HX1.out, HQQ.out], by rw [HX2.out]; exact h3⟩⟩
                clear h3 h5 h6 X q0 q1 q2 z0 z1
                go_wp2_with fail
                go_roundw
                case rel => exact ⟨k + 1, tk2, true, l2, rfl, by go_num, by omega, by omega, by omega, Lib.hid ⟨HF.out.1, HF.out.2.1, HF.out.2.2.imp id (fun q => ⟨rfl, q.2⟩)⟩⟩
                case measure => simp [intOf]; omega
          · have e1 : (sc == c) = false := by simpa using hq
            have HF : Hid ((Rx W gt tk' l' (.slice A4 l'.length c4) V ∧ Row V g5 25 #[.int .i64 ver, .slice _ es.length cap, .slice _ ss.length cbp] ∧ Tk w V) ∧ l'.length ≤ 60 ∧ ((p = false ∧ tk' = tk1 + 1 ∧ l' = l1 ∧ ∀ j (hj : j < ss.length), j < k + 1 → (ss[j]).1 ≠ c) ∨ (p = true ∧ n ≤ 20 ∧ ∃ j, ∃ hj : j < ss.length, j < k + 1 ∧ (ss[j]).1 = c ∧ Ev es ss (.run (ss[j]).2) (n + 1) (tk1 + 1) l1 (.ok tk' l')))) := Lib.hid ⟨X.out.1, HQ.out.1, HQ.out.2.imp (fun q => ⟨q.1, q.2.1, q.2.2.1, fun j hj hjk => by
              by_cases e : j = k
              · subst e; rw [HX1.out]; exact hq
              · exact q.2.2.2 j hj (by omega)⟩) (fun ⟨q, q0, j, hj, hjk, q2⟩ => ⟨q, q0, j, hj, by omega, q2⟩)⟩
            clear hq X HQ
            go_wp2_with fail
            go_roundw
            case rel => exact ⟨k + 1, tk', p, l', rfl, by go_num, by omega, by omega, by omega, HF⟩
            case measure => simp [intOf]; omega
        · have k3 : ¬ (k : Int) < (ss.length : Int) := by omega
          have HQ := Lib.hid X.out.2
          have X1 := Lib.hid X.out.1
          clear X
          cases p with
          | false =>
            have HF : Hid (Ev es ss (.run C) n tk l (.er 6) ∧ Below W.heap.size W wr ∧ Tk w wr) := Lib.hid ⟨JE.out.2 _ (.seqN _ _ _ _ _ H5.out HK.out (fS_none fun j hj => by
              rcases HQ.out.2 with ⟨-, -, -, q⟩ | ⟨q, -⟩
              · exact q j hj (by omega)
              · cases q)), X1.out.1.below, X1.out.2.2⟩
            clear HQ X1
            go_wp2_with fail
            go_ret2
            exact .inl ⟨6, HF.out.1, by decide, rfl, HF.out.2⟩
          | true =>
            have HF : Hid ((Rx W gt tk' l' (.slice A4 l'.length c4) wr ∧ Row wr g5 25 #[.int .i64 ver, .slice A es.length cap, .slice B ss.length cbp] ∧ Tk w wr) ∧ l'.length ≤ 60 ∧ ∀ r, Ev es ss (.run (C.drop (i + 1))) n tk' l' r → Ev es ss (.run C) n tk l r) := Lib.hid ⟨X1.out, HQ.out.1, fun r q => by
              rcases HQ.out.2 with ⟨z, -⟩ | ⟨-, z, j, hj, -, h1, h2⟩
              · cases z
              · exact JE.out.2 _ (.seq _ _ _ _ _ _ _ _ _ H5.out HK.out (by rw [← h1]; exact fS_at HNS.out hj) z h2 q)⟩
            clear X1 HQ
            go_wp2_with fail
            go_roundw
            case rel => exact ⟨i + 1, tk', l', by go_num, by omega, by omega, by omega, HF⟩
            case measure => simp [intOf]; omega
    · obtain ⟨c1', c2', -⟩ := knd_3.1 HK.out
      obtain ⟨r1, r2, r3, r4, -, -, r5, r6⟩ := rep_facts HK.out
      obtain ⟨cn, ecn⟩ : ∃ cn, cnt c = cn := ⟨_, rfl⟩
      obtain ⟨tm, etm⟩ : ∃ tm, tms c = tm := ⟨_, rfl⟩
      have EC := Lib.hid ecn
      have ET := Lib.hid etm
      rw [ecn] at r1 r2 r5
      rw [etm] at r3 r4 r6
      have e1 : Int.tdiv (c - 20000) 100 = (cn : Int) := by rw [Int.tdiv_eq_ediv_of_nonneg (by omega)]; omega
      have e2 : Int.tmod (c - 20000) 100 = (tm : Int) := by rw [Int.tmod_eq_emod_of_nonneg (by omega)]; omega
      have h5' := H5.out
      clear ecn etm r5 r6
      by_cases hcn : C.length ≤ i + cn
      · have m1 : (C.length : Int) ≤ (i : Int) + (cn : Int) := by omega
        have HB : Hid (Below W.heap.size W w1 ∧ Tk w w1) := Lib.hid ⟨X1.out.1.below, X1.out.2.2⟩
        have HF : Hid (Ev es ss (.run C) n tk l (.er 11)) := Lib.hid (JE.out.2 _ (.repS _ _ _ _ _ H5.out HK.out (by rw [EC.out, List.length_drop]; omega)))
        go_wp2_with fail
        go_ret2
        exact .inl ⟨11, HF.out, by first | decide | assumption, rfl, HB.out⟩
      have m1 : ¬ (C.length : Int) ≤ (i : Int) + (cn : Int) := by omega
      obtain ⟨cs, hcs⟩ : ∃ cs, (C.drop (i + 1)).take cn = cs := ⟨_, rfl⟩
      have HCS := Lib.hid hcs
      have hcl : cs.length = cn := by rw [← hcs, List.length_take, List.length_drop]; omega
      clear hcs
      go_wp2_with fail
      clear e1 e2
      go_loopw [4, 24] (fun y t wr => ∃ (k tk' : Nat) (l' : List En), t = .int .i64 k ∧ k ≤ tm ∧ tk1 + 1 ≤ tk' ∧ tk' ≤ 500 ∧ Hid ((Rx W gt tk' l' y wr ∧ Row wr g5 25 #[.int .i64 ver, .slice A es.length cap, .slice B ss.length cbp] ∧ Tk w wr) ∧ l'.length ≤ 60 ∧ ∀ r, Ev es ss (.rep cs (tm - k)) n tk' l' r → Ev es ss (.rep cs tm) n (tk1 + 1) l1 r)) (fun _ t _ => tm - (intOf t).toNat)
      case atStart => exact ⟨0, tk1 + 1, l1, rfl, Nat.zero_le _, Nat.le_refl _, by omega, Lib.hid ⟨X1.out, JE.out.1, fun r q => q⟩⟩
      case round =>
        clear X1
        obtain ⟨k, tk', l', rfl, hk, ht3, ht4, X⟩ := hrel
        obtain ⟨A4, c4, ev⟩ := sl_of X.out.1.1.own
        subst ev
        by_cases hlk : k < tm
        · have k2 : (0 : Int) ≤ (k : Int) := by omega
          have k3 : (k : Int) < (tm : Int) := by omega
          obtain ⟨q0, q1, q2⟩ := row3 X.out.1.2.1
          have x1 : IntKind.i64.wrap ((i : Int) + 1) = (i : Int) + 1 := IntWalk.i64_in _ (by omega)
          have x2 : IntKind.i64.wrap ((i : Int) + 1 + (cn : Int)) = (i : Int) + 1 + (cn : Int) := IntWalk.i64_in _ (by omega)
          have x3 : (0 : Int) ≤ (i : Int) + 1 := by omega
          have x4 : (i : Int) + 1 ≤ (i : Int) + 1 + (cn : Int) := by omega
          have x5 : (i : Int) + 1 + (cn : Int) ≤ (cc : Int) := by omega
          go_upto_region 15 with fail
          refine wp_region_held_drew (S := fun Y : World => Y.cell? ⟨g5, 0, none⟩ = some (.int .i64 ver) ∧ Y.cell? ⟨g5, 1, none⟩ = some (.slice A es.length cap) ∧ Y.cell? ⟨g5, 2, none⟩ = some (.slice B ss.length cbp)) (by kernel_rfl) ⟨q0, q1, q2⟩ (fun hHeld => ?_)
          clear q0 q1 q2
          refine wpAnyH_take (i := 0) (oi := ⟨some 66, _, _, _, _, none⟩) (v := ?_) rfl (by kernel_rfl) (by kernel_rfl) (by kernel_rfl) (fun _ _ _ h => h) (Or.inl ⟨by rfl, ?_⟩) (by assumption) ?_
          case refine_2 => (intro wx hSx; (try dsimp only at hSx); go_simp; first | done | with_reducible rfl)
          ((try simp only [Act.put]); (try simp only [List.setIfInBounds_toArray]); (try simp only [List.set_cons_succ]); (try simp only [List.set_cons_zero]))
          refine wpAnyH_take (i := 1) (oi := ⟨some 67, _, _, _, _, none⟩) (v := ?_) rfl (by kernel_rfl) (by kernel_rfl) (by kernel_rfl) (fun _ _ _ h => h) (Or.inl ⟨by rfl, ?_⟩) (by assumption) ?_
          case refine_2 => (intro wx hSx; (try dsimp only at hSx); go_simp; first | done | with_reducible rfl)
          ((try simp only [Act.put]); (try simp only [List.setIfInBounds_toArray]); (try simp only [List.set_cons_succ]); (try simp only [List.set_cons_zero]))
          refine wpAnyH_take (i := 2) (oi := ⟨some 68, _, _, _, _, none⟩) (v := ?_) rfl (by kernel_rfl) (by kernel_rfl) (by kernel_rfl) (fun _ _ _ h => h) (Or.inl ⟨by rfl, ?_⟩) (by assumption) ?_
          case refine_2 => (intro wx hSx; (try dsimp only at hSx); go_simp; first | done | with_reducible rfl)
          ((try simp only [Act.put]); (try simp only [List.setIfInBounds_toArray]); (try simp only [List.set_cons_succ]); (try simp only [List.set_cons_zero]))
          refine wpAnyH_take (i := 3) (oi := ⟨some 69, _, _, _, _, none⟩) (v := ?_) rfl (by kernel_rfl) (by kernel_rfl) (by kernel_rfl) (fun _ _ _ h => h) (Or.inl ⟨by rfl, ?_⟩) (by assumption) ?_
          case refine_2 => (intro wx hSx; (try dsimp only at hSx); go_simp; first | done | with_reducible rfl)
          ((try simp only [Act.put]); (try simp only [List.setIfInBounds_toArray]); (try simp only [List.set_cons_succ]); (try simp only [List.set_cons_zero]))
          refine wpAnyH_take (i := 4) (oi := ⟨some 70, _, _, _, _, none⟩) (v := ?_) rfl (by kernel_rfl) (by kernel_rfl) (by kernel_rfl) (fun _ _ _ h => h) (Or.inl ⟨by rfl, ?_⟩) (by assumption) ?_
          case refine_2 => (intro wx hSx; (try dsimp only at hSx); go_simp; first | done | with_reducible rfl)
          ((try simp only [Act.put]); (try simp only [List.setIfInBounds_toArray]); (try simp only [List.set_cons_succ]); (try simp only [List.set_cons_zero]))
          refine wpAnyH_take (i := 5) (oi := ⟨some 71, _, _, _, _, none⟩) (v := ?_) rfl (by kernel_rfl) (by kernel_rfl) (by kernel_rfl) (fun _ _ _ h => h) (Or.inl ⟨by rfl, ?_⟩) (by assumption) ?_
          case refine_2 => (intro wx hSx; (try dsimp only at hSx); go_simp; first | done | with_reducible rfl)
          ((try simp only [Act.put]); (try simp only [List.setIfInBounds_toArray]); (try simp only [List.set_cons_succ]); (try simp only [List.set_cons_zero]))
          refine wpAnyH_take (i := 6) (oi := ⟨some 72, _, _, _, _, none⟩) (v := ?_) rfl (by kernel_rfl) (by kernel_rfl) (by kernel_rfl) (fun _ _ _ h => h) (Or.inl ⟨by rfl, ?_⟩) (by assumption) ?_
          case refine_2 => (intro wx hSx; (try dsimp only at hSx); go_simp; first | done | with_reducible rfl)
          ((try simp only [Act.put]); (try simp only [List.setIfInBounds_toArray]); (try simp only [List.set_cons_succ]); (try simp only [List.set_cons_zero]))
          refine wpAnyH_take (i := 7) (oi := ⟨some 73, _, _, _, _, none⟩) (v := ?_) rfl (by kernel_rfl) (by kernel_rfl) (by kernel_rfl) (fun _ _ _ h => h) (Or.inl ⟨by rfl, ?_⟩) (by assumption) ?_
          case refine_2 => (intro wx hSx; (try dsimp only at hSx); go_simp; first | done | with_reducible rfl)
          ((try simp only [Act.put]); (try simp only [List.setIfInBounds_toArray]); (try simp only [List.set_cons_succ]); (try simp only [List.set_cons_zero]))
          refine wpAnyH_take (i := 8) (oi := ⟨some 74, _, _, _, _, none⟩) (v := ?_) rfl (by kernel_rfl) (by kernel_rfl) (by kernel_rfl) (fun _ _ _ h => h) (Or.inl ⟨by rfl, ?_⟩) (by assumption) ?_
          case refine_2 => (intro wx hSx; (try dsimp only at hSx); go_simp; first | done | with_reducible rfl)
          ((try simp only [Act.put]); (try simp only [List.setIfInBounds_toArray]); (try simp only [List.set_cons_succ]); (try simp only [List.set_cons_zero]))
          refine wpAnyH_take (i := 9) (oi := ⟨some 75, _, _, _, _, none⟩) (v := ?_) rfl (by kernel_rfl) (by kernel_rfl) (by kernel_rfl) (fun _ _ _ h => h) (Or.inl ⟨by rfl, ?_⟩) (by assumption) ?_
          case refine_2 => (intro wx hSx; (try dsimp only at hSx); go_simp; first | done | with_reducible rfl)
          ((try simp only [Act.put]); (try simp only [List.setIfInBounds_toArray]); (try simp only [List.set_cons_succ]); (try simp only [List.set_cons_zero]))
          refine wpAnyH_take (i := 10) (oi := ⟨some 76, _, _, _, _, none⟩) (v := ?_) rfl (by kernel_rfl) (by kernel_rfl) (by kernel_rfl) (fun _ _ _ h => h) (Or.inl ⟨by rfl, ?_⟩) (by assumption) ?_
          case refine_2 => (intro wx hSx; (try dsimp only at hSx); go_simp; first | done | with_reducible rfl)
          ((try simp only [Act.put]); (try simp only [List.setIfInBounds_toArray]); (try simp only [List.set_cons_succ]); (try simp only [List.set_cons_zero]))
          refine wpAnyH_take (i := 11) (oi := ⟨some 77, _, _, _, _, none⟩) (v := ?_) rfl (by kernel_rfl) (by kernel_rfl) (by kernel_rfl) (fun _ _ _ h => h) (Or.inl ⟨by rfl, ?_⟩) (by assumption) ?_
          case refine_2 => (intro wx hSx; (try dsimp only at hSx); go_simp; first | done | with_reducible rfl)
          ((try simp only [Act.put]); (try simp only [List.setIfInBounds_toArray]); (try simp only [List.set_cons_succ]); (try simp only [List.set_cons_zero]))
          have hd : Below wr.heap.size wr wr.drew := below_drewN (Below.refl _ _) 1
          have Y := Lib.hid (⟨⟨X.out.1.1.under hd, X.out.1.2.1.under hd, X.out.1.2.2.under hd⟩, X.out.2⟩ : (Rx W gt tk' l' (.slice A4 l'.length c4) wr.drew ∧ Row wr.drew g5 25 #[.int .i64 ver, .slice A es.length cap, .slice B ss.length cbp] ∧ Tk w wr.drew) ∧ l'.length ≤ 60 ∧ ∀ r, Ev es ss (.rep cs (tm - k)) n tk' l' r → Ev es ss (.rep cs tm) n (tk1 + 1) l1 r)
          clear X hd
          generalize wr.drew = V at Y hHeld ⊢
          refine wpAnyH_ready (rs := [12]) (by kernel_rfl) (by simp) ?_
          refine AllReadyH.cons (o := ⟨some 78, _, _, _, _, none⟩) rfl (fun Kx hK => ?_) AllReadyH.nil
          go_simp
          rw [show ((i : Int) + 1 + (cn : Int)).toNat - (i + 1) = cn by omega]
          have hnm : NmIn W (.slice (if cc = i + 1 then some (⟨g, off, none⟩ : Addr) else some ⟨g, off + (i + 1), none⟩) cn (cc - (i + 1))) cs := by
            rw [← HCS.out]
            exact (HV.out.rest (k := i + 1) (by omega)).take (by rw [List.length_drop]; omega)
          generalize (if cc = i + 1 then some (⟨g, off, none⟩ : Addr) else some ⟨g, off + (i + 1), none⟩) = A5 at hnm ⊢
          have hcall := HC.out (by omega) W V gt tk' l' n _ _ _ cs (by omega) (by omega) HTB.out Y.out.1.1 Y.out.2.1 hnm (by omega) H20.out hn21
          clear hnm
          refine hcall.mono ?_
          clear hcall
          rintro e w4 (⟨x, h3, h4, rfl, h5⟩ | ⟨tk2, l2, v2, h3, h4, rfl, h5, h6⟩)
          · have hr5 := h5.2 _ _ Y.out.1.2.1
            have HF : Hid (Ev es ss (.run C) n tk l (.er x) ∧ x ≠ 0 ∧ Below W.heap.size W w4 ∧ Tk w w4) := Lib.hid ⟨JE.out.2 _ (.repE _ _ _ _ _ _ H5.out HK.out (by rw [EC.out, List.length_drop]; omega) (by rw [EC.out, ET.out, HCS.out]; exact Y.out.2.2 _ (by rw [show tm - k = (tm - (k + 1)) + 1 by omega]; exact .rE _ _ _ _ _ _ h3))), h4, h5.1, Y.out.1.2.2.trans h5.2⟩
            have j0 : (x == 0) = false := by simpa using h4
            clear h3 h4 h5 Y hHeld
            go_simp
            refine hK.out _ _ (row3 hr5) (fun hHeld => ?_)
            clear hK Kx hr5
            ((try simp only [Act.put]); (try simp only [List.setIfInBounds_toArray]); (try simp only [List.set_cons_succ]); (try simp only [List.set_cons_zero]))
            refine wpAnyH_take (i := 13) (oi := ⟨some 65, _, _, _, _, none⟩) (v := ?_) rfl (by kernel_rfl) (by kernel_rfl) (by kernel_rfl) (fun _ _ _ h => h) (Or.inl ⟨by rfl, ?_⟩) (by assumption) ?_
            case refine_2 => (intro wx hSx; (try dsimp only at hSx); go_simp; first | done | with_reducible rfl)
            ((try simp only [Act.put]); (try simp only [List.setIfInBounds_toArray]); (try simp only [List.set_cons_succ]); (try simp only [List.set_cons_zero]))
            refine wpAnyH_take (i := 14) (oi := ⟨some 79, _, _, _, _, none⟩) (v := ?_) rfl (by kernel_rfl) (by kernel_rfl) (by kernel_rfl) (fun _ _ _ h => h) (Or.inl ⟨by rfl, ?_⟩) (by assumption) ?_
            case refine_2 => (intro wx hSx; (try dsimp only at hSx); go_simp; first | done | with_reducible rfl)
            ((try simp only [Act.put]); (try simp only [List.setIfInBounds_toArray]); (try simp only [List.set_cons_succ]); (try simp only [List.set_cons_zero]))
            refine wpAnyH_take (i := 15) (oi := ⟨some 80, _, _, _, _, none⟩) (v := ?_) rfl (by kernel_rfl) (by kernel_rfl) (by kernel_rfl) (fun _ _ _ h => h) (Or.inl ⟨by rfl, ?_⟩) (by assumption) ?_
            case refine_2 => (intro wx hSx; (try dsimp only at hSx); go_simp; first | done | with_reducible rfl)
            ((try simp only [Act.put]); (try simp only [List.setIfInBounds_toArray]); (try simp only [List.set_cons_succ]); (try simp only [List.set_cons_zero]))
            refine wpAnyH_take (i := 16) (oi := ⟨some 25, _, _, _, _, none⟩) (v := ?_) rfl (by kernel_rfl) (by kernel_rfl) (by kernel_rfl) (fun _ _ _ h => h) (Or.inl ⟨by rfl, ?_⟩) (by assumption) ?_
            case refine_2 => (intro wx hSx; (try dsimp only at hSx); go_simp; first | done | with_reducible rfl)
            ((try simp only [Act.put]); (try simp only [List.setIfInBounds_toArray]); (try simp only [List.set_cons_succ]); (try simp only [List.set_cons_zero]))
            refine wpAnyH_take (i := 17) (oi := ⟨some 26, _, _, _, _, none⟩) (v := ?_) rfl (by kernel_rfl) (by kernel_rfl) (by kernel_rfl) (fun _ _ _ h => h) (Or.inl ⟨by rfl, ?_⟩) (by assumption) ?_
            case refine_2 => (intro wx hSx; (try dsimp only at hSx); go_simp; first | done | with_reducible rfl)
            ((try simp only [Act.put]); (try simp only [List.setIfInBounds_toArray]); (try simp only [List.set_cons_succ]); (try simp only [List.set_cons_zero]))
            refine wpAnyH_done (by kernel_rfl) ?_ _
            clear hHeld x1 x2 x3 x4 x5
            go_wp2_with fail
            go_ret2
            exact .inl ⟨x, HF.out.1, HF.out.2.1, rfl, HF.out.2.2⟩
          · have hr5 := h6 _ _ Y.out.1.2.1
            have HF : Hid ((Rx W gt tk2 l2 v2 w4 ∧ Row w4 g5 25 #[.int .i64 ver, .slice _ es.length cap, .slice _ ss.length cbp] ∧ Tk w w4) ∧ l2.length ≤ 60 ∧ ∀ r, Ev es ss (.rep cs (tm - (k + 1))) n tk2 l2 r → Ev es ss (.rep cs tm) n (tk1 + 1) l1 r) := Lib.hid ⟨⟨h5, hr5, Y.out.1.2.2.trans h6⟩, h3.le60 Y.out.2.1 _ _ rfl, fun r q => Y.out.2.2 r (by rw [show tm - k = (tm - (k + 1)) + 1 by omega]; exact .rS _ _ _ _ _ _ _ _ h3 q)⟩
            clear h3 h5 h6 Y hHeld
            go_simp
            refine hK.out _ _ (row3 hr5) (fun hHeld => ?_)
            clear hK Kx hr5
            ((try simp only [Act.put]); (try simp only [List.setIfInBounds_toArray]); (try simp only [List.set_cons_succ]); (try simp only [List.set_cons_zero]))
            refine wpAnyH_take (i := 13) (oi := ⟨some 65, _, _, _, _, none⟩) (v := ?_) rfl (by kernel_rfl) (by kernel_rfl) (by kernel_rfl) (fun _ _ _ h => h) (Or.inl ⟨by rfl, ?_⟩) (by assumption) ?_
            case refine_2 => (intro wx hSx; (try dsimp only at hSx); go_simp; first | done | with_reducible rfl)
            ((try simp only [Act.put]); (try simp only [List.setIfInBounds_toArray]); (try simp only [List.set_cons_succ]); (try simp only [List.set_cons_zero]))
            refine wpAnyH_take (i := 14) (oi := ⟨some 79, _, _, _, _, none⟩) (v := ?_) rfl (by kernel_rfl) (by kernel_rfl) (by kernel_rfl) (fun _ _ _ h => h) (Or.inl ⟨by rfl, ?_⟩) (by assumption) ?_
            case refine_2 => (intro wx hSx; (try dsimp only at hSx); go_simp; first | done | with_reducible rfl)
            ((try simp only [Act.put]); (try simp only [List.setIfInBounds_toArray]); (try simp only [List.set_cons_succ]); (try simp only [List.set_cons_zero]))
            refine wpAnyH_take (i := 15) (oi := ⟨some 80, _, _, _, _, none⟩) (v := ?_) rfl (by kernel_rfl) (by kernel_rfl) (by kernel_rfl) (fun _ _ _ h => h) (Or.inl ⟨by rfl, ?_⟩) (by assumption) ?_
            case refine_2 => (intro wx hSx; (try dsimp only at hSx); go_simp; first | done | with_reducible rfl)
            ((try simp only [Act.put]); (try simp only [List.setIfInBounds_toArray]); (try simp only [List.set_cons_succ]); (try simp only [List.set_cons_zero]))
            refine wpAnyH_take (i := 16) (oi := ⟨some 25, _, _, _, _, none⟩) (v := ?_) rfl (by kernel_rfl) (by kernel_rfl) (by kernel_rfl) (fun _ _ _ h => h) (Or.inl ⟨by rfl, ?_⟩) (by assumption) ?_
            case refine_2 => (intro wx hSx; (try dsimp only at hSx); go_simp; first | done | with_reducible rfl)
            ((try simp only [Act.put]); (try simp only [List.setIfInBounds_toArray]); (try simp only [List.set_cons_succ]); (try simp only [List.set_cons_zero]))
            refine wpAnyH_take (i := 17) (oi := ⟨some 26, _, _, _, _, none⟩) (v := ?_) rfl (by kernel_rfl) (by kernel_rfl) (by kernel_rfl) (fun _ _ _ h => h) (Or.inl ⟨by rfl, ?_⟩) (by assumption) ?_
            case refine_2 => (intro wx hSx; (try dsimp only at hSx); go_simp; first | done | with_reducible rfl)
            ((try simp only [Act.put]); (try simp only [List.setIfInBounds_toArray]); (try simp only [List.set_cons_succ]); (try simp only [List.set_cons_zero]))
            refine wpAnyH_done (by kernel_rfl) ?_ _
            clear hHeld x1 x2 x3 x4 x5
            go_wp2_with fail
            go_roundw
            case rel => exact ⟨k + 1, tk2, l2, by go_num, by omega, by omega, by omega, HF⟩
            case measure => simp [intOf]; omega
        · have k3 : ¬ (k : Int) < (tm : Int) := by omega
          have HF : Hid ((Rx W gt tk' l' (.slice A4 l'.length c4) wr ∧ Row wr g5 25 #[.int .i64 ver, .slice A es.length cap, .slice B ss.length cbp] ∧ Tk w wr) ∧ l'.length ≤ 60 ∧ ∀ r, Ev es ss (.run (C.drop (i + 1 + cn))) n tk' l' r → Ev es ss (.run C) n tk l r) := Lib.hid ⟨X.out.1, X.out.2.1, fun r q => JE.out.2 _ (.rep _ _ _ _ _ _ _ _ H5.out HK.out (by rw [EC.out, List.length_drop]; omega) (by rw [EC.out, ET.out, HCS.out]; exact X.out.2.2 _ (by rw [show tm - k = 0 by omega]; exact .r0 _ _ _ _)) (by rw [EC.out, List.drop_drop]; exact q))⟩
          clear X
          go_wp2_with fail
          go_roundw
          case rel => exact ⟨i + 1 + cn, tk', l', by go_num, by omega, by omega, by omega, HF⟩
          case measure => simp [intOf]; omega
end Go.Proofs.YtjaopjhfjijdaaaDoor
