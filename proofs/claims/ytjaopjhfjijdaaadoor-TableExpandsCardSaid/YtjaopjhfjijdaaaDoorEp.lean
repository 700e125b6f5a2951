/- The contract of Expand of the program. -/
import Derived.Test.YtjaopjhfjijdaaaDoorEy
namespace Go.Proofs.YtjaopjhfjijdaaaDoor
open Go.RowKit Go.Maps

/-- What Expand answers: an error and no entries, or the entries. -/
def Ans (v : Int) (es : List En) (ss : List Sq) (C : List Int) (x : Int) (L : List En) : Prop :=
  (tbl v es ss ≠ 0 ∧ x = tbl v es ss ∧ L = []) ∨ (tbl v es ss = 0 ∧ 20 < C.length ∧ x = 2 ∧ L = []) ∨ (tbl v es ss = 0 ∧ C.length ≤ 20 ∧ ((x ≠ 0 ∧ Ev es ss (.run C) 0 0 [] (.er x) ∧ L = []) ∨ (x = 0 ∧ ∃ tk, Ev es ss (.run C) 0 0 [] (.ok tk L))))
theorem Ans.one {v : Int} {es : List En} {ss : List Sq} {C : List Int} {x y : Int} {L M : List En} (h : Ans v es ss C x L) (k : Ans v es ss C y M) : x = y ∧ L = M := by
  rcases h with ⟨a, b, c⟩ | ⟨a, b, c, d⟩ | ⟨a, b, c⟩
  · rcases k with ⟨a', b', c'⟩ | ⟨a', b', c', d'⟩ | ⟨a', b', c'⟩
    · exact ⟨b.trans b'.symm, c.trans c'.symm⟩
    · exact absurd a' a
    · exact absurd a' a
  · rcases k with ⟨a', b', c'⟩ | ⟨a', b', c', d'⟩ | ⟨a', b', c'⟩
    · exact absurd a a'
    · exact ⟨c.trans c'.symm, d.trans d'.symm⟩
    · omega
  · rcases k with ⟨a', b', c'⟩ | ⟨a', b', c', d'⟩ | ⟨a', b', c'⟩
    · exact absurd a a'
    · omega
    · rcases c with ⟨c1, c2, c3⟩ | ⟨c1, tk, c2⟩
      · rcases c' with ⟨d1, d2, d3⟩ | ⟨d1, tk', d2⟩
        · have := c2.one _ d2
          injection this with this
          exact ⟨this, c3.trans d3.symm⟩
        · have := c2.one _ d2
          cases this
      · rcases c' with ⟨d1, d2, d3⟩ | ⟨d1, tk', d2⟩
        · have := c2.one _ d2
          cases this
        · have := c2.one _ d2
          injection this with _ this
          exact ⟨c1.trans d1.symm, this⟩
/-- The entries of an expansion have codes in range. -/
theorem Ev.i64 {es : List En} {ss : List Sq} {j : Jb} {n tk : Nat} {l : List En} {r : Res} (h : Ev es ss j n tk l r) : (∀ e ∈ l, I64 e.1) → ∀ tk' l', r = .ok tk' l' → ∀ e ∈ l', I64 e.1 := by
  induction h with
  | nil => intro hl tk' l' e; injection e with _ e; subst e; exact hl
  | r0 => intro hl tk' l' e; injection e with _ e; subst e; exact hl
  | ent c cs n tk l x r h1 h2 h3 h4 h5 ih =>
    intro hl
    refine ih (fun e he => ?_)
    rcases List.mem_append.1 he with he | he
    · exact hl e he
    · rw [List.mem_singleton.1 he]
      have : x.1 = c := by have := List.find?_some h3; simpa using this
      rw [this]
      have := knd_1.1 h2
      exact ⟨by omega, by omega⟩
  | seq _ _ _ _ _ _ _ _ _ _ _ _ _ _ _ ih1 ih2 => intro hl; exact ih2 (ih1 hl _ _ rfl)
  | rep _ _ _ _ _ _ _ _ _ _ _ _ _ ih1 ih2 => intro hl; exact ih2 (ih1 hl _ _ rfl)
  | rS _ _ _ _ _ _ _ _ _ _ ih1 ih2 => intro hl; exact ih2 (ih1 hl _ _ rfl)
  | _ => intro _ _ _ e; cases e
/-- What Expand leaves. -/
def XR (w : World) (v : Int) (es : List En) (ss : List Sq) (C : List Int) (e : Ending) (w' : World) : Prop := ∃ (x : Int) (L : List En) (a : Value), Ans v es ss C x L ∧ e = .returned (.tuple #[a, .int .i64 x]) ∧ EnIn w' a L ∧ Below w.heap.size w w'
theorem xp_start {w X : World} {gx b1 b2 n1 n2 s1 s2 : Nat} {f1 f2 : Int → Option Value} {es : List En} {ss : List Sq} (hB : Below w.heap.size w X) (hr : Row X gx 73 #[.map none, .map none, .int .i64 0, .slice none 0 0]) (hx : w.heap.size ≤ gx) (m1 : Mp X b1 n1 f1 s1) (e1 : EnF es f1) (l1 : w.heap.size ≤ b1) (m2 : Mp X b2 n2 f2 s2) (e2 : SqF w ss f2) (l2 : w.heap.size ≤ b2) :
    Xp w gx b1 b2 es ss 0 [] ((((X.setCell ⟨gx, 0, none⟩ (.map (some b1))).setCell ⟨gx, 1, none⟩ (.map (some b2))).setCell ⟨gx, 2, none⟩ (.int .i64 0)).setCell ⟨gx, 3, none⟩ (.slice none 0 0)) := by
  have g0 : X.grownBy ((((X.setCell ⟨gx, 0, none⟩ (.map (some b1))).setCell ⟨gx, 1, none⟩ (.map (some b2))).setCell ⟨gx, 2, none⟩ (.int .i64 0)).setCell ⟨gx, 3, none⟩ (.slice none 0 0)) (some gx) := grown_trans (grown_trans (grown_trans grown_put grown_put) grown_put) grown_put
  exact ⟨set4_below hB hx, hx, l1, l2, Nat.zero_le _, by omega, ⟨.slice none 0 0, set4_row _ _ _ _ hr, World.ownsRow_nil _ _ _ _⟩, ⟨n1, f1, s1, m1.kept g0 (fun q => m1.ne hr (by injection q)), e1⟩, ⟨n2, f2, s2, m2.kept g0 (fun q => m2.ne hr (by injection q)), e2⟩⟩
set_option maxRecDepth 100000 in
set_option maxHeartbeats 2000000 in
theorem expand_any (tv cv : Value) (v : Int) (es : List En) (ss : List Sq) (C : List Int) (w : World) (hT : TbIn w tv v es ss) (hC : NmIn w cv C) (hR : Tab w) :
    Calls Tryd.prog 15 #[tv, cv] w (XR w v es ss C) := by
  have HT := Lib.hid hT
  have HC := Lib.hid hC
  have HV := Lib.hid (fun W (h : Below w.heap.size w W) => validate_any tv v es ss W (hT.under h) (hR.under h))
  obtain ⟨a, b, rfl, hE, hS⟩ := hT
  obtain ⟨A, cap, rfl, h1, h2, -⟩ := hE
  obtain ⟨Bq, cbp, rfl, g1, g2, -⟩ := hS
  obtain ⟨Cq, ccp, rfl, c1, c2, -⟩ := hC
  have b1 : Below w.heap.size w (w.alloc (.cells #[.int .i64 v, .slice A es.length cap, .slice Bq ss.length cbp] 25)) := (Below.refl _ _).alloc (Nat.le_refl _) _
  have r1 := Row.new w #[.int .i64 v, .slice A es.length cap, .slice Bq ss.length cbp] 25
  clear hR
  go_enter Tryd.func15, Tryd.ntmps15
  go_upto_region 1 with fail
  generalize w.alloc (.cells #[.int .i64 v, .slice A es.length cap, .slice Bq ss.length cbp] 25) = W1 at *
  generalize w.heap.size = gb at r1 ⊢
  obtain ⟨p0, p1, p2⟩ := row3 r1
  have B1 := Lib.hid b1
  have R1 := Lib.hid r1
  clear r1 b1
  obtain ⟨z, hz⟩ : ∃ z, tbl v es ss = z := ⟨_, rfl⟩
  rw [hz] at HV
  have HZ := Lib.hid hz; clear hz
  go_wp2_with fail
  refine (HV.out _ B1.out).mono ?_
  rintro e w2 ⟨rfl, g2'⟩
  have B2 := Lib.hid (B1.out.trans (g2'.mono B1.out.size))
  have R2 := Lib.hid (R1.out.under g2')
  clear g2' p0 p1 p2 B1 R1 HV
  by_cases hz0 : z = 0
  case neg =>
    have i0 : (z == 0) = false := by simpa using hz0
    have HN : Hid (Ans v es ss C z []) := Lib.hid (.inl ⟨by rw [HZ.out]; exact hz0, HZ.out.symm, rfl⟩)
    go_wp2_with fail
    go_ret2
    exact ⟨z, [], .slice none 0 0, HN.out, rfl, EnIn.nil _, B2.out⟩
  subst hz0
  by_cases hc20 : 20 < C.length
  · have i2 : (20 : Int) < (C.length : Int) := by omega
    have HN : Hid (Ans v es ss C 2 []) := Lib.hid (.inr (.inl ⟨HZ.out, hc20, rfl, rfl⟩))
    go_wp2_with fail
    go_ret2
    exact ⟨2, [], .slice none 0 0, HN.out, rfl, EnIn.nil _, B2.out⟩
  have i2 : ¬ (20 : Int) < (C.length : Int) := by omega
  have HL : Hid (C.length ≤ 20) := Lib.hid (by omega)
  have HG := Lib.hid (good_iff.1 HZ.out)
  clear hc20
  go_upto_region 6 with fail
  obtain ⟨p0, p1, p2⟩ := row3 R2.out
  have J0 : Hid (Below w.heap.size w w2 ∧ Row w2 gb 25 #[.int .i64 v, .slice A es.length cap, .slice Bq ss.length cbp]) := Lib.hid ⟨B2.out, R2.out⟩
  refine wp_region_held_drew (S := fun w' : World => w'.cell? ⟨gb, 0, none⟩ = some (.int .i64 v) ∧ w'.cell? ⟨gb, 1, none⟩ = some (.slice A es.length cap) ∧ w'.cell? ⟨gb, 2, none⟩ = some (.slice Bq ss.length cbp)) (by kernel_rfl) ⟨p0, p1, p2⟩ (fun hHeld => ?_)
  refine wpAnyH_take (i := 0) (oi := ⟨some 17, _, _, _, _, none⟩) (v := ?_) rfl (by kernel_rfl) (by kernel_rfl) (by kernel_rfl) (fun _ _ _ h => h) (Or.inl ⟨by rfl, ?_⟩) (by assumption) ?_
  case refine_2 => (intro wx hSx; (try dsimp only at hSx); go_simp; first | done | with_reducible rfl)
  ((try simp only [Act.put]); (try simp only [List.setIfInBounds_toArray]); (try simp only [List.set_cons_succ]); (try simp only [List.set_cons_zero]))
  refine wpAnyH_take (i := 2) (oi := ⟨some 19, _, _, _, _, none⟩) (v := ?_) rfl (by kernel_rfl) (by kernel_rfl) (by kernel_rfl) (fun _ _ _ h => h) (Or.inl ⟨by rfl, ?_⟩) (by assumption) ?_
  case refine_2 => (intro wx hSx; (try dsimp only at hSx); go_simp; first | done | with_reducible rfl)
  ((try simp only [Act.put]); (try simp only [List.setIfInBounds_toArray]); (try simp only [List.set_cons_succ]); (try simp only [List.set_cons_zero]))
  refine genH (fun Y => Hid (Below w.heap.size w Y ∧ Row Y gb 25 #[.int .i64 v, .slice A es.length cap, .slice Bq ss.length cbp])) (Lib.hid ⟨J0.out.1.drew, J0.out.2⟩) (fun X0 J0b => ?_)
  clear J0 p0 p1 p2 B2 R2
  refine wpAnyH_ready (rs := [1, 5]) (by kernel_rfl) (by simp) ?_
  refine AllReadyH.cons (o := ⟨some 18, _, _, _, _, none⟩) rfl (fun K hK => ?_) (AllReadyH.cons (o := ⟨some 7, _, _, _, _, none⟩) rfl (fun K hK => ?_) (AllReadyH.nil))
  · go_simp
    refine (entries_any _ v es ss _ (HT.out.under J0b.out.1)).mono ?_
    rintro e w1 ⟨b1, f1, s1, rfl, hm, hf, -, hlo, hb⟩
    obtain ⟨n1, en1⟩ : ∃ n1, es.length = n1 := ⟨_, rfl⟩
    rw [en1] at hm
    have J1 : Hid (Below w.heap.size w w1 ∧ Row w1 gb 25 #[.int .i64 v, .slice A es.length cap, .slice Bq ss.length cbp] ∧ Mp w1 b1 n1 f1 s1 ∧ EnF es f1 ∧ w.heap.size ≤ b1) := Lib.hid ⟨(J0b.out.1).trans (hb.mono (J0b.out.1).size), (J0b.out.2).under hb, hm, hf, Nat.le_trans (J0b.out.1).size hlo⟩
    clear hm hf hlo hb en1 J0b
    go_wp2_with fail
    refine hK.out _ _ (row3 J1.out.2.1) (fun hHeld2 => ?_)
    clear hK K
    ((try simp only [Act.put]); (try simp only [List.setIfInBounds_toArray]); (try simp only [List.set_cons_succ]); (try simp only [List.set_cons_zero]))
    refine wpAnyH_ready (rs := [3, 5]) (by kernel_rfl) (by simp) ?_
    refine AllReadyH.cons (o := ⟨some 20, _, _, _, _, none⟩) rfl (fun K hK => ?_) (AllReadyH.cons (o := ⟨some 7, _, _, _, _, none⟩) rfl (fun K hK => ?_) (AllReadyH.nil))
    · go_simp
      refine (sequences_from w _ v es ss _ HT.out J1.out.1).mono ?_
      rintro e w2 ⟨b2, f2, s2, rfl, hm, hf, -, hlo, hb⟩
      obtain ⟨n2, en2⟩ : ∃ n2, ss.length = n2 := ⟨_, rfl⟩
      rw [en2] at hm
      have J2 : Hid (Below w.heap.size w w2 ∧ Row w2 gb 25 #[.int .i64 v, .slice A es.length cap, .slice Bq ss.length cbp] ∧ Mp w2 b1 n1 f1 s1 ∧ EnF es f1 ∧ w.heap.size ≤ b1 ∧ Mp w2 b2 n2 f2 s2 ∧ SqF w ss f2 ∧ w.heap.size ≤ b2) := Lib.hid ⟨(J1.out.1).trans (hb.mono (J1.out.1).size), (J1.out.2.1).under hb, (J1.out.2.2.1).under hb, J1.out.2.2.2.1, J1.out.2.2.2.2, hm, hf, Nat.le_trans (J1.out.1).size hlo⟩
      clear hm hf hlo hb en2 J1
      go_wp2_with fail
      refine hK.out _ _ (row3 J2.out.2.1) (fun hHeld2 => ?_)
      clear hK K
      ((try simp only [Act.put]); (try simp only [List.setIfInBounds_toArray]); (try simp only [List.set_cons_succ]); (try simp only [List.set_cons_zero]))
      refine wpAnyH_take (i := 4) (oi := ⟨some 21, _, _, _, _, none⟩) (v := ?_) rfl (by kernel_rfl) (by kernel_rfl) (by kernel_rfl) (fun _ _ _ h => h) (Or.inl ⟨by rfl, ?_⟩) (by assumption) ?_
      case refine_2 => (intro wx hSx; (try dsimp only at hSx); go_simp; first | done | with_reducible rfl)
      ((try simp only [Act.put]); (try simp only [List.setIfInBounds_toArray]); (try simp only [List.set_cons_succ]); (try simp only [List.set_cons_zero]))
      refine wpAnyH_ready (rs := [5]) (by kernel_rfl) (by simp) ?_
      refine AllReadyH.cons (o := ⟨some 7, _, _, _, _, none⟩) rfl (fun K hK => ?_) (AllReadyH.nil)
      · go_simp
        have J3 : Hid (Below w.heap.size w (w2.alloc (.cells #[.map none, .map none, .int .i64 0, .slice none 0 0] 73)) ∧ Row (w2.alloc (.cells #[.map none, .map none, .int .i64 0, .slice none 0 0] 73)) gb 25 #[.int .i64 v, .slice A es.length cap, .slice Bq ss.length cbp] ∧ Row (w2.alloc (.cells #[.map none, .map none, .int .i64 0, .slice none 0 0] 73)) w2.heap.size 73 #[.map none, .map none, .int .i64 0, .slice none 0 0] ∧ w.heap.size ≤ w2.heap.size ∧ Mp (w2.alloc (.cells #[.map none, .map none, .int .i64 0, .slice none 0 0] 73)) b1 n1 f1 s1 ∧ EnF es f1 ∧ w.heap.size ≤ b1 ∧ Mp (w2.alloc (.cells #[.map none, .map none, .int .i64 0, .slice none 0 0] 73)) b2 n2 f2 s2 ∧ SqF w ss f2 ∧ w.heap.size ≤ b2) := Lib.hid ⟨alloc_below J2.out.1 (J2.out.1).size _, (J2.out.2.1).alloc _, Row.new _ _ _, (J2.out.1).size, (J2.out.2.2.1).under ((Below.refl _ _).alloc (Nat.le_refl _) _), J2.out.2.2.2.1, J2.out.2.2.2.2.1, (J2.out.2.2.2.2.2.1).under ((Below.refl _ _).alloc (Nat.le_refl _) _), J2.out.2.2.2.2.2.2.1, J2.out.2.2.2.2.2.2.2⟩
        refine hK.out _ _ (row3 J3.out.2.1) (fun hHeld2 => ?_)
        clear hK K
        ((try simp only [Act.put]); (try simp only [List.setIfInBounds_toArray]); (try simp only [List.set_cons_succ]); (try simp only [List.set_cons_zero]))
        generalize w2.heap.size = gx at J3 ⊢
        refine genH (fun Y => Hid (Below w.heap.size w Y ∧ Row Y gb 25 #[.int .i64 v, .slice A es.length cap, .slice Bq ss.length cbp] ∧ Row Y gx 73 #[.map none, .map none, .int .i64 0, .slice none 0 0] ∧ w.heap.size ≤ gx ∧ Mp Y b1 n1 f1 s1 ∧ EnF es f1 ∧ w.heap.size ≤ b1 ∧ Mp Y b2 n2 f2 s2 ∧ SqF w ss f2 ∧ w.heap.size ≤ b2)) J3 (fun X3 J3b => ?_)
        clear J3 J2
        have SS := row4 (set4_row (.map (some b1)) (.map (some b2)) (.int .i64 0) (.slice none 0 0) J3b.out.2.2.1)
        have F0 := (J3b.out.2.2.1).thaw 0
        have F1 := (J3b.out.2.2.1).thaw 1
        have F2 := (J3b.out.2.2.1).thaw 2
        have F3 := (J3b.out.2.2.1).thaw 3
        obtain ⟨Q0, Q1, Q2, Q3⟩ := row4 J3b.out.2.2.1
        refine wpAnyH_ready (rs := [6]) (by kernel_rfl) (by simp) ?_
        refine AllReadyH.cons (o := ⟨none, _, _, _, _, none⟩) rfl (fun K hK => ?_) AllReadyH.nil
        go_simp
        have RT := row3 (set4_far (g := gx) (.map (some b1)) (.map (some b2)) (.int .i64 0) (.slice none 0 0) J3b.out.2.1 (fun q => by have a := J3b.out.2.1; have b := J3b.out.2.2.1; unfold Row at a b; rw [q, a] at b; injection b with b; injection b with _ b; exact absurd b (by decide)))
        refine hK.out _ _ RT (fun hHeld2 => ?_)
        clear hK K
        ((try simp only [Act.put]); (try simp only [List.setIfInBounds_toArray]); (try simp only [List.set_cons_succ]); (try simp only [List.set_cons_zero]))
        refine wpAnyH_done (by kernel_rfl) ?_ _
        have XP : Hid (Xp w gx b1 b2 es ss 0 [] ((((X3.setCell ⟨gx, 0, none⟩ (.map (some b1))).setCell ⟨gx, 1, none⟩ (.map (some b2))).setCell ⟨gx, 2, none⟩ (.int .i64 0)).setCell ⟨gx, 3, none⟩ (.slice none 0 0))) := Lib.hid (xp_start J3b.out.1 J3b.out.2.2.1 J3b.out.2.2.2.1 J3b.out.2.2.2.2.1 J3b.out.2.2.2.2.2.1 J3b.out.2.2.2.2.2.2.1 J3b.out.2.2.2.2.2.2.2.1 J3b.out.2.2.2.2.2.2.2.2.1 J3b.out.2.2.2.2.2.2.2.2.2)
        generalize (((X3.setCell ⟨gx, 0, none⟩ (.map (some b1))).setCell ⟨gx, 1, none⟩ (.map (some b2))).setCell ⟨gx, 2, none⟩ (.int .i64 0)).setCell ⟨gx, 3, none⟩ (.slice none 0 0) = w9 at XP ⊢
        clear SS F0 F1 F2 F3 Q0 Q1 Q2 Q3 RT J3b
        clear hHeld2
        go_wp2_with fail
        refine (XC_0 es ss HG.out.en HG.out.sn w w9 gx b1 b2 0 [] 0 _ C (Nat.le_refl _) (by omega) XP.out HC.out (by omega)).mono ?_
        rintro e w10 (⟨x, e1, e2, rfl, e4⟩ | ⟨tk', l', e1, e2, rfl, e4⟩)
        · have HF : Hid (Ans v es ss C x [] ∧ Below w.heap.size w w10) := Lib.hid ⟨.inr (.inr ⟨HZ.out, HL.out, .inl ⟨e2, e1, rfl⟩⟩), e4⟩
          have i0 : (x == 0) = false := by simpa using e2
          clear e1 e4
          go_wp2_with fail
          go_ret2
          exact ⟨x, [], .slice none 0 0, HF.out.1, rfl, EnIn.nil _, HF.out.2⟩
        · obtain ⟨va, rw, ow⟩ := e4.row
          have HF : Hid (Ans v es ss C 0 l' ∧ EnIn w10 va l' ∧ Below w.heap.size w w10) := Lib.hid ⟨.inr (.inr ⟨HZ.out, HL.out, .inr ⟨rfl, tk', e1⟩⟩), EnIn.own (e1.i64 (fun e he => by cases he) _ _ rfl) ow, e4.below⟩
          obtain ⟨Aq, cq, eq, -⟩ := HF.out.2.1
          subst eq
          have p3 := (row4 rw).2.2.2
          clear e1 e4 ow rw
          go_wp2_with fail
          go_ret2
          exact ⟨0, l', _, HF.out.1, rfl, HF.out.2.1, HF.out.2.2⟩
    · go_simp
      have J4 : Hid (Below w.heap.size w (w1.alloc (.cells #[.map none, .map none, .int .i64 0, .slice none 0 0] 73)) ∧ Row (w1.alloc (.cells #[.map none, .map none, .int .i64 0, .slice none 0 0] 73)) gb 25 #[.int .i64 v, .slice A es.length cap, .slice Bq ss.length cbp] ∧ Row (w1.alloc (.cells #[.map none, .map none, .int .i64 0, .slice none 0 0] 73)) w1.heap.size 73 #[.map none, .map none, .int .i64 0, .slice none 0 0] ∧ w.heap.size ≤ w1.heap.size ∧ Mp (w1.alloc (.cells #[.map none, .map none, .int .i64 0, .slice none 0 0] 73)) b1 n1 f1 s1 ∧ EnF es f1 ∧ w.heap.size ≤ b1) := Lib.hid ⟨alloc_below J1.out.1 (J1.out.1).size _, (J1.out.2.1).alloc _, Row.new _ _ _, (J1.out.1).size, (J1.out.2.2.1).under ((Below.refl _ _).alloc (Nat.le_refl _) _), J1.out.2.2.2.1, J1.out.2.2.2.2⟩
      refine hK.out _ _ (row3 J4.out.2.1) (fun hHeld2 => ?_)
      clear hK K
      ((try simp only [Act.put]); (try simp only [List.setIfInBounds_toArray]); (try simp only [List.set_cons_succ]); (try simp only [List.set_cons_zero]))
      generalize w1.heap.size = gx at J4 ⊢
      refine genH (fun Y => Hid (Below w.heap.size w Y ∧ Row Y gb 25 #[.int .i64 v, .slice A es.length cap, .slice Bq ss.length cbp] ∧ Row Y gx 73 #[.map none, .map none, .int .i64 0, .slice none 0 0] ∧ w.heap.size ≤ gx ∧ Mp Y b1 n1 f1 s1 ∧ EnF es f1 ∧ w.heap.size ≤ b1)) J4 (fun X4 J4b => ?_)
      clear J4 J1
      refine wpAnyH_ready (rs := [3]) (by kernel_rfl) (by simp) ?_
      refine AllReadyH.cons (o := ⟨some 20, _, _, _, _, none⟩) rfl (fun K hK => ?_) (AllReadyH.nil)
      · go_simp
        refine (sequences_from w _ v es ss _ HT.out J4b.out.1).mono ?_
        rintro e w5 ⟨b2, f2, s2, rfl, hm, hf, -, hlo, hb⟩
        obtain ⟨n2, en2⟩ : ∃ n2, ss.length = n2 := ⟨_, rfl⟩
        rw [en2] at hm
        have J5 : Hid (Below w.heap.size w w5 ∧ Row w5 gb 25 #[.int .i64 v, .slice A es.length cap, .slice Bq ss.length cbp] ∧ Row w5 gx 73 #[.map none, .map none, .int .i64 0, .slice none 0 0] ∧ w.heap.size ≤ gx ∧ Mp w5 b1 n1 f1 s1 ∧ EnF es f1 ∧ w.heap.size ≤ b1 ∧ Mp w5 b2 n2 f2 s2 ∧ SqF w ss f2 ∧ w.heap.size ≤ b2) := Lib.hid ⟨(J4b.out.1).trans (hb.mono (J4b.out.1).size), (J4b.out.2.1).under hb, (J4b.out.2.2.1).under hb, J4b.out.2.2.2.1, (J4b.out.2.2.2.2.1).under hb, J4b.out.2.2.2.2.2.1, J4b.out.2.2.2.2.2.2, hm, hf, Nat.le_trans (J4b.out.1).size hlo⟩
        clear hm hf hlo hb en2 J4b
        go_wp2_with fail
        refine hK.out _ _ (row3 J5.out.2.1) (fun hHeld2 => ?_)
        clear hK K
        ((try simp only [Act.put]); (try simp only [List.setIfInBounds_toArray]); (try simp only [List.set_cons_succ]); (try simp only [List.set_cons_zero]))
        refine wpAnyH_take (i := 4) (oi := ⟨some 21, _, _, _, _, none⟩) (v := ?_) rfl (by kernel_rfl) (by kernel_rfl) (by kernel_rfl) (fun _ _ _ h => h) (Or.inl ⟨by rfl, ?_⟩) (by assumption) ?_
        case refine_2 => (intro wx hSx; (try dsimp only at hSx); go_simp; first | done | with_reducible rfl)
        ((try simp only [Act.put]); (try simp only [List.setIfInBounds_toArray]); (try simp only [List.set_cons_succ]); (try simp only [List.set_cons_zero]))
        have SS := row4 (set4_row (.map (some b1)) (.map (some b2)) (.int .i64 0) (.slice none 0 0) J5.out.2.2.1)
        have F0 := (J5.out.2.2.1).thaw 0
        have F1 := (J5.out.2.2.1).thaw 1
        have F2 := (J5.out.2.2.1).thaw 2
        have F3 := (J5.out.2.2.1).thaw 3
        obtain ⟨Q0, Q1, Q2, Q3⟩ := row4 J5.out.2.2.1
        refine wpAnyH_ready (rs := [6]) (by kernel_rfl) (by simp) ?_
        refine AllReadyH.cons (o := ⟨none, _, _, _, _, none⟩) rfl (fun K hK => ?_) AllReadyH.nil
        go_simp
        have RT := row3 (set4_far (g := gx) (.map (some b1)) (.map (some b2)) (.int .i64 0) (.slice none 0 0) J5.out.2.1 (fun q => by have a := J5.out.2.1; have b := J5.out.2.2.1; unfold Row at a b; rw [q, a] at b; injection b with b; injection b with _ b; exact absurd b (by decide)))
        refine hK.out _ _ RT (fun hHeld2 => ?_)
        clear hK K
        ((try simp only [Act.put]); (try simp only [List.setIfInBounds_toArray]); (try simp only [List.set_cons_succ]); (try simp only [List.set_cons_zero]))
        refine wpAnyH_done (by kernel_rfl) ?_ _
        have XP : Hid (Xp w gx b1 b2 es ss 0 [] ((((w5.setCell ⟨gx, 0, none⟩ (.map (some b1))).setCell ⟨gx, 1, none⟩ (.map (some b2))).setCell ⟨gx, 2, none⟩ (.int .i64 0)).setCell ⟨gx, 3, none⟩ (.slice none 0 0))) := Lib.hid (xp_start J5.out.1 J5.out.2.2.1 J5.out.2.2.2.1 J5.out.2.2.2.2.1 J5.out.2.2.2.2.2.1 J5.out.2.2.2.2.2.2.1 J5.out.2.2.2.2.2.2.2.1 J5.out.2.2.2.2.2.2.2.2.1 J5.out.2.2.2.2.2.2.2.2.2)
        generalize (((w5.setCell ⟨gx, 0, none⟩ (.map (some b1))).setCell ⟨gx, 1, none⟩ (.map (some b2))).setCell ⟨gx, 2, none⟩ (.int .i64 0)).setCell ⟨gx, 3, none⟩ (.slice none 0 0) = w9 at XP ⊢
        clear SS F0 F1 F2 F3 Q0 Q1 Q2 Q3 RT J5
        clear hHeld2
        go_wp2_with fail
        refine (XC_0 es ss HG.out.en HG.out.sn w w9 gx b1 b2 0 [] 0 _ C (Nat.le_refl _) (by omega) XP.out HC.out (by omega)).mono ?_
        rintro e w10 (⟨x, e1, e2, rfl, e4⟩ | ⟨tk', l', e1, e2, rfl, e4⟩)
        · have HF : Hid (Ans v es ss C x [] ∧ Below w.heap.size w w10) := Lib.hid ⟨.inr (.inr ⟨HZ.out, HL.out, .inl ⟨e2, e1, rfl⟩⟩), e4⟩
          have i0 : (x == 0) = false := by simpa using e2
          clear e1 e4
          go_wp2_with fail
          go_ret2
          exact ⟨x, [], .slice none 0 0, HF.out.1, rfl, EnIn.nil _, HF.out.2⟩
        · obtain ⟨va, rw, ow⟩ := e4.row
          have HF : Hid (Ans v es ss C 0 l' ∧ EnIn w10 va l' ∧ Below w.heap.size w w10) := Lib.hid ⟨.inr (.inr ⟨HZ.out, HL.out, .inr ⟨rfl, tk', e1⟩⟩), EnIn.own (e1.i64 (fun e he => by cases he) _ _ rfl) ow, e4.below⟩
          obtain ⟨Aq, cq, eq, -⟩ := HF.out.2.1
          subst eq
          have p3 := (row4 rw).2.2.2
          clear e1 e4 ow rw
          go_wp2_with fail
          go_ret2
          exact ⟨0, l', _, HF.out.1, rfl, HF.out.2.1, HF.out.2.2⟩
  · go_simp
    have J6 : Hid (Below w.heap.size w (X0.alloc (.cells #[.map none, .map none, .int .i64 0, .slice none 0 0] 73)) ∧ Row (X0.alloc (.cells #[.map none, .map none, .int .i64 0, .slice none 0 0] 73)) gb 25 #[.int .i64 v, .slice A es.length cap, .slice Bq ss.length cbp] ∧ Row (X0.alloc (.cells #[.map none, .map none, .int .i64 0, .slice none 0 0] 73)) X0.heap.size 73 #[.map none, .map none, .int .i64 0, .slice none 0 0] ∧ w.heap.size ≤ X0.heap.size) := Lib.hid ⟨alloc_below J0b.out.1 (J0b.out.1).size _, (J0b.out.2).alloc _, Row.new _ _ _, (J0b.out.1).size⟩
    refine hK.out _ _ (row3 J6.out.2.1) (fun hHeld2 => ?_)
    clear hK K
    ((try simp only [Act.put]); (try simp only [List.setIfInBounds_toArray]); (try simp only [List.set_cons_succ]); (try simp only [List.set_cons_zero]))
    generalize X0.heap.size = gx at J6 ⊢
    refine genH (fun Y => Hid (Below w.heap.size w Y ∧ Row Y gb 25 #[.int .i64 v, .slice A es.length cap, .slice Bq ss.length cbp] ∧ Row Y gx 73 #[.map none, .map none, .int .i64 0, .slice none 0 0] ∧ w.heap.size ≤ gx)) J6 (fun X6 J6b => ?_)
    clear J6 J0b
    refine wpAnyH_ready (rs := [1]) (by kernel_rfl) (by simp) ?_
    refine AllReadyH.cons (o := ⟨some 18, _, _, _, _, none⟩) rfl (fun K hK => ?_) (AllReadyH.nil)
    · go_simp
      refine (entries_any _ v es ss _ (HT.out.under J6b.out.1)).mono ?_
      rintro e w7 ⟨b1, f1, s1, rfl, hm, hf, -, hlo, hb⟩
      obtain ⟨n1, en1⟩ : ∃ n1, es.length = n1 := ⟨_, rfl⟩
      rw [en1] at hm
      have J7 : Hid (Below w.heap.size w w7 ∧ Row w7 gb 25 #[.int .i64 v, .slice A es.length cap, .slice Bq ss.length cbp] ∧ Row w7 gx 73 #[.map none, .map none, .int .i64 0, .slice none 0 0] ∧ w.heap.size ≤ gx ∧ Mp w7 b1 n1 f1 s1 ∧ EnF es f1 ∧ w.heap.size ≤ b1) := Lib.hid ⟨(J6b.out.1).trans (hb.mono (J6b.out.1).size), (J6b.out.2.1).under hb, (J6b.out.2.2.1).under hb, J6b.out.2.2.2, hm, hf, Nat.le_trans (J6b.out.1).size hlo⟩
      clear hm hf hlo hb en1 J6b
      go_wp2_with fail
      refine hK.out _ _ (row3 J7.out.2.1) (fun hHeld2 => ?_)
      clear hK K
      ((try simp only [Act.put]); (try simp only [List.setIfInBounds_toArray]); (try simp only [List.set_cons_succ]); (try simp only [List.set_cons_zero]))
      refine wpAnyH_ready (rs := [3]) (by kernel_rfl) (by simp) ?_
      refine AllReadyH.cons (o := ⟨some 20, _, _, _, _, none⟩) rfl (fun K hK => ?_) (AllReadyH.nil)
      · go_simp
        refine (sequences_from w _ v es ss _ HT.out J7.out.1).mono ?_
        rintro e w8 ⟨b2, f2, s2, rfl, hm, hf, -, hlo, hb⟩
        obtain ⟨n2, en2⟩ : ∃ n2, ss.length = n2 := ⟨_, rfl⟩
        rw [en2] at hm
        have J8 : Hid (Below w.heap.size w w8 ∧ Row w8 gb 25 #[.int .i64 v, .slice A es.length cap, .slice Bq ss.length cbp] ∧ Row w8 gx 73 #[.map none, .map none, .int .i64 0, .slice none 0 0] ∧ w.heap.size ≤ gx ∧ Mp w8 b1 n1 f1 s1 ∧ EnF es f1 ∧ w.heap.size ≤ b1 ∧ Mp w8 b2 n2 f2 s2 ∧ SqF w ss f2 ∧ w.heap.size ≤ b2) := Lib.hid ⟨(J7.out.1).trans (hb.mono (J7.out.1).size), (J7.out.2.1).under hb, (J7.out.2.2.1).under hb, J7.out.2.2.2.1, (J7.out.2.2.2.2.1).under hb, J7.out.2.2.2.2.2.1, J7.out.2.2.2.2.2.2, hm, hf, Nat.le_trans (J7.out.1).size hlo⟩
        clear hm hf hlo hb en2 J7
        go_wp2_with fail
        refine hK.out _ _ (row3 J8.out.2.1) (fun hHeld2 => ?_)
        clear hK K
        ((try simp only [Act.put]); (try simp only [List.setIfInBounds_toArray]); (try simp only [List.set_cons_succ]); (try simp only [List.set_cons_zero]))
        refine wpAnyH_take (i := 4) (oi := ⟨some 21, _, _, _, _, none⟩) (v := ?_) rfl (by kernel_rfl) (by kernel_rfl) (by kernel_rfl) (fun _ _ _ h => h) (Or.inl ⟨by rfl, ?_⟩) (by assumption) ?_
        case refine_2 => (intro wx hSx; (try dsimp only at hSx); go_simp; first | done | with_reducible rfl)
        ((try simp only [Act.put]); (try simp only [List.setIfInBounds_toArray]); (try simp only [List.set_cons_succ]); (try simp only [List.set_cons_zero]))
        have SS := row4 (set4_row (.map (some b1)) (.map (some b2)) (.int .i64 0) (.slice none 0 0) J8.out.2.2.1)
        have F0 := (J8.out.2.2.1).thaw 0
        have F1 := (J8.out.2.2.1).thaw 1
        have F2 := (J8.out.2.2.1).thaw 2
        have F3 := (J8.out.2.2.1).thaw 3
        obtain ⟨Q0, Q1, Q2, Q3⟩ := row4 J8.out.2.2.1
        refine wpAnyH_ready (rs := [6]) (by kernel_rfl) (by simp) ?_
        refine AllReadyH.cons (o := ⟨none, _, _, _, _, none⟩) rfl (fun K hK => ?_) AllReadyH.nil
        go_simp
        have RT := row3 (set4_far (g := gx) (.map (some b1)) (.map (some b2)) (.int .i64 0) (.slice none 0 0) J8.out.2.1 (fun q => by have a := J8.out.2.1; have b := J8.out.2.2.1; unfold Row at a b; rw [q, a] at b; injection b with b; injection b with _ b; exact absurd b (by decide)))
        refine hK.out _ _ RT (fun hHeld2 => ?_)
        clear hK K
        ((try simp only [Act.put]); (try simp only [List.setIfInBounds_toArray]); (try simp only [List.set_cons_succ]); (try simp only [List.set_cons_zero]))
        refine wpAnyH_done (by kernel_rfl) ?_ _
        have XP : Hid (Xp w gx b1 b2 es ss 0 [] ((((w8.setCell ⟨gx, 0, none⟩ (.map (some b1))).setCell ⟨gx, 1, none⟩ (.map (some b2))).setCell ⟨gx, 2, none⟩ (.int .i64 0)).setCell ⟨gx, 3, none⟩ (.slice none 0 0))) := Lib.hid (xp_start J8.out.1 J8.out.2.2.1 J8.out.2.2.2.1 J8.out.2.2.2.2.1 J8.out.2.2.2.2.2.1 J8.out.2.2.2.2.2.2.1 J8.out.2.2.2.2.2.2.2.1 J8.out.2.2.2.2.2.2.2.2.1 J8.out.2.2.2.2.2.2.2.2.2)
        generalize (((w8.setCell ⟨gx, 0, none⟩ (.map (some b1))).setCell ⟨gx, 1, none⟩ (.map (some b2))).setCell ⟨gx, 2, none⟩ (.int .i64 0)).setCell ⟨gx, 3, none⟩ (.slice none 0 0) = w9 at XP ⊢
        clear SS F0 F1 F2 F3 Q0 Q1 Q2 Q3 RT J8
        clear hHeld2
        go_wp2_with fail
        refine (XC_0 es ss HG.out.en HG.out.sn w w9 gx b1 b2 0 [] 0 _ C (Nat.le_refl _) (by omega) XP.out HC.out (by omega)).mono ?_
        rintro e w10 (⟨x, e1, e2, rfl, e4⟩ | ⟨tk', l', e1, e2, rfl, e4⟩)
        · have HF : Hid (Ans v es ss C x [] ∧ Below w.heap.size w w10) := Lib.hid ⟨.inr (.inr ⟨HZ.out, HL.out, .inl ⟨e2, e1, rfl⟩⟩), e4⟩
          have i0 : (x == 0) = false := by simpa using e2
          clear e1 e4
          go_wp2_with fail
          go_ret2
          exact ⟨x, [], .slice none 0 0, HF.out.1, rfl, EnIn.nil _, HF.out.2⟩
        · obtain ⟨va, rw, ow⟩ := e4.row
          have HF : Hid (Ans v es ss C 0 l' ∧ EnIn w10 va l' ∧ Below w.heap.size w w10) := Lib.hid ⟨.inr (.inr ⟨HZ.out, HL.out, .inr ⟨rfl, tk', e1⟩⟩), EnIn.own (e1.i64 (fun e he => by cases he) _ _ rfl) ow, e4.below⟩
          obtain ⟨Aq, cq, eq, -⟩ := HF.out.2.1
          subst eq
          have p3 := (row4 rw).2.2.2
          clear e1 e4 ow rw
          go_wp2_with fail
          go_ret2
          exact ⟨0, l', _, HF.out.1, rfl, HF.out.2.1, HF.out.2.2⟩
end Go.Proofs.YtjaopjhfjijdaaaDoor
