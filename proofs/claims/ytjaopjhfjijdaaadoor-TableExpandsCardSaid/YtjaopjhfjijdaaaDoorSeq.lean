/- What a sequence stands for, in plain numbers. The walk of TableSequence. -/
import Derived.Test.YtjaopjhfjijdaaaDoorJof
import Derived.Test.YtjaopjhfjijdaaaDoorRv
namespace Go.Proofs.YtjaopjhfjijdaaaDoor

theorem fS_last {ss : List Sq} {c : Int} {C : List Int} (h : ∀ s ∈ ss, s.1 ≠ c) : fS (ss ++ [(c, C)]) c = some C := by
  unfold fS
  rw [List.find?_append]
  have h0 : ss.find? (fun s => s.1 == c) = none := List.find?_eq_none.2 fun s hs q => h s hs (by simpa using q)
  rw [h0]
  simp
theorem ans_run {v : Int} {es : List En} {ss : List Sq} {C : List Int} {x : Int} {L : List En} (h : Ans v es ss C x L) (hg : tbl v es ss = 0) (hl : C.length ≤ 20) :
    (x ≠ 0 ∧ Ev es ss (.run C) 0 0 [] (.er x) ∧ L = []) ∨ (x = 0 ∧ ∃ tk, Ev es ss (.run C) 0 0 [] (.ok tk L)) := by
  rcases h with ⟨a, -, -⟩ | ⟨-, b, -⟩ | ⟨-, -, c⟩
  · exact absurd hg a
  · omega
  · exact c
theorem seq_no {es : List En} {ss : List Sq} {c : Int} {C : List Int} {x y : Int} {L M : List En} (hg : tbl 1 es ss = 0) (hl : C.length ≤ 20) (hk : knd c = 2) (hf : fS ss c = some C)
    (h1 : Ans 1 es ss [c] x L) (h2 : Ans 1 es ss C y M) (hx : x ≠ 0) : y ≠ 0 ∨ x = 2 := by
  rcases ans_run h1 hg (by simp) with ⟨-, e1, -⟩ | ⟨q, -⟩
  case inr => exact absurd q hx
  rcases ans_run h2 hg hl with ⟨q, -⟩ | ⟨-, tk, e2⟩
  case inl => exact .inl q
  right
  cases e1 with
  | seqE _ _ _ _ _ b _ _ _ hf' _ e1 =>
    rw [hf] at hf'; injection hf' with hf'; subst hf'
    rcases e1.two _ _ _ _ e2 with q | q | ⟨_, _, q⟩ | ⟨_, _, q, _⟩
    · injection q
    · cases q
    · cases q
    · cases q
  | seq _ _ _ _ _ _ _ _ _ _ _ _ _ _ e1 => cases e1
  | _ => first | omega | simp_all
theorem seq_yes {es : List En} {ss : List Sq} {c : Int} {C : List Int} {y z : Int} {L M N : List En} (hg : tbl 1 es ss = 0) (hl : C.length ≤ 20) (hk : knd c = 2) (hf : fS ss c = some C) (h100 : ∃ e, fE es 100 = some e)
    (h1 : Ans 1 es ss [c] 0 L) (h2 : Ans 1 es ss C y M) (h3 : Ans 1 es ss [c, 100] z N) : y = 0 ∧ L = M ∧ (z = 0 ∧ N.length = L.length + 1 ∨ z = 2) := by
  rcases ans_run h1 hg (by simp) with ⟨q, -⟩ | ⟨-, tk, e1⟩
  case inl => exact absurd rfl q
  cases e1 with
  | seq _ _ _ _ _ b tk1 l1 _ k0 _ hf' _ e1 e2 =>
    rw [hf] at hf'; injection hf' with hf'; subst hf'
    cases e2
    obtain ⟨d, e, -, he, hd⟩ := e1.less _ _ rfl
    rw [List.nil_append] at he
    have e3 := hd 0 0 [] (by omega) (by omega) (by simp)
    rw [List.nil_append, ← he] at e3
    clear he hd
    obtain ⟨rfl, rfl⟩ := h2.one (.inr (.inr ⟨hg, hl, .inr ⟨rfl, _, e3⟩⟩))
    refine ⟨rfl, rfl, ?_⟩
    obtain ⟨x, hx⟩ := h100
    by_cases t1 : tk < 500
    · by_cases t2 : M.length < 60
      · obtain ⟨rfl, rfl⟩ := h3.one (.inr (.inr ⟨hg, by simp, .inr ⟨rfl, _, .seq _ _ _ _ _ _ _ _ _ k0 hk hf (by omega) e1 (.ent _ _ _ _ _ _ _ t1 (by decide) hx t2 (.nil _ _ _))⟩⟩))
        exact .inl ⟨rfl, by simp⟩
      · obtain ⟨rfl, rfl⟩ := h3.one (.inr (.inr ⟨hg, by simp, .inl ⟨by decide, .seq _ _ _ _ _ _ _ _ _ k0 hk hf (by omega) e1 (.entL _ _ _ _ _ _ t1 (by decide) hx (by omega)), rfl⟩⟩))
        exact .inr rfl
    · obtain ⟨rfl, rfl⟩ := h3.one (.inr (.inr ⟨hg, by simp, .inl ⟨by decide, .seq _ _ _ _ _ _ _ _ _ k0 hk hf (by omega) e1 (.lim _ _ _ _ _ (by omega)), rfl⟩⟩))
      exact .inr rfl
  | _ => omega
end Go.Proofs.YtjaopjhfjijdaaaDoor
namespace Go.Proofs.YtjaopjhfjijdaaaDoor
open Go.RowKit

/-- What the law holds once all is drawn: the table in its box, the list of codes. -/
def Sst (W : World) (g4 : Nat) (va vb : Value) (es : List En) (ss : List Sq) (vv : Value) (C : List Int) (Y : World) : Prop := Below W.heap.size W Y ∧ Row Y g4 25 #[.int .i64 1, va, vb] ∧ TbIn Y (.agg #[.int .i64 1, va, vb]) 1 es ss ∧ NmIn Y vv C
theorem Sst.under {W : World} {g4 : Nat} {va vb : Value} {es : List En} {ss : List Sq} {vv : Value} {C : List Int} {Y Y' : World} (h : Sst W g4 va vb es ss vv C Y) (hb : Below Y.heap.size Y Y') : Sst W g4 va vb es ss vv C Y' := ⟨h.1.trans (hb.mono h.1.size), h.2.1.under hb, h.2.2.1.under hb, h.2.2.2.under hb⟩
theorem row_put2 {Y : World} {g : Nat} {t : TypeId} {x y z u : Value} (h : Row Y g t #[x, y, z]) : Row (Y.setCell ⟨g, 2, none⟩ u) g t #[x, y, u] := h.put 2 _
theorem TbL.put {b base : Nat} {Y : World} {va vb : Value} {es : List En} {ss : List Sq} {L : List (Int × Value)} {g j : Nat} {u : Value} {cs : Array Value} (h : TbL b base Y va vb es ss L) (hr : Row Y g 25 cs) : TbL b base (Y.setCell ⟨g, j, none⟩ u) va vb es ss L := by
  obtain ⟨hb, hI, o1, o2, el, hs⟩ := h
  exact ⟨hb, hI, o1.kept grown_put (.inr (Ne.symm (own_ne o1 hr (by decide)))), o2.kept grown_put (.inr (Ne.symm (own_ne o2 hr (by decide)))), el, fun k hk => ⟨(hs k hk).1, (hs k hk).2.1, (hs k hk).2.2.step' grown_put (fun g' cur _ r q => by injection q with q; exact row_ne r hr (by decide) q)⟩⟩
theorem seq_state {W X Y : World} {b base g4 : Nat} {va vb vb' q : Value} {es : List En} {ss : List Sq} {L : List (Int × Value)} {C : List Int} (h : Src W b X ∧ Row X g4 25 #[.int .i64 1, va, vb] ∧ TbL b base X va vb es ss L ∧ base ≤ X.heap.size ∧ W.heap.size ≤ g4 ∧ NmO b X q C) (hbb : b < base)
    (ho' : Y.ownsRow base 58 2 vb' (L.length + 1) (rowS L ++ [.int .i64 12345, q])) (hg : X.grownBy Y vb.ownBlock) :
    Row Y g4 25 #[.int .i64 1, va, vb] ∧ Sst W g4 va vb' es (ss ++ [(12345, C)]) q C (Y.setCell ⟨g4, 2, none⟩ vb') := by
  obtain ⟨hs, hr, htb, -, hW, hq⟩ := h
  have hWb := hs.base
  have o2 := htb.2.2.2.1
  have r1 := hr.grown hg (own_ne o2 hr (by decide))
  have h1 := htb.app (c := 12345) (i64_small (by decide) (by decide)) hq ho' hg
  have s1 := src_own hs hbb (by omega) o2 hg
  have q1 : NmO b Y q C := hq.step' hg (fun g cur _ r => own_ne o2 r (by decide))
  exact ⟨r1, s1.below.setCell (p := ⟨g4, 2, none⟩) hW _, row_put2 r1, (h1.put r1).tb, (q1.step' grown_put (fun g' cur _ r e => by injection e with e; exact row_ne r r1 (by decide) e)).1⟩
set_option maxRecDepth 100000 in
set_option maxHeartbeats 4000000 in
theorem tableSequence_any (v : Value) (W : World) (hT : Tab W) (hv : ListIn W v) :
    Calls Tryd.prog 6 #[v] W fun e w' => e = .returned (.bool true) ∧ Below W.heap.size W w' := by
  have HT := Lib.hid hT
  clear hT
  obtain ⟨m0, hm, hx0, hx1, hx2⟩ := info_parts infoSeq
  go_enter Tryd.func6, Tryd.ntmps6
  go_wp2_with fail
  refine (new_any W v hv).mono ?_
  rintro e w1 ⟨rfl, hs, hb⟩
  have H1 : Hid (Src W W.heap.size w1) := Lib.hid hs
  clear hs hb hv
  obtain ⟨b, eb⟩ : ∃ b, W.heap.size = b := ⟨_, rfl⟩
  rw [eb] at H1 ⊢
  clear eb
  go_wp2_with fail
  refine (table_any W b w1 1 H1.out).mono ?_
  rintro e w2 ⟨tv, es, ss, rfl, htb, hes, hss, hs, hg⟩
  have hl3 : ss.length ≤ 3 := hss.1
  obtain ⟨va, vb, L, rfl, htb⟩ := htb
  obtain ⟨A, cap, ev⟩ := sl_of htb.2.2.1
  obtain ⟨B, cbp, ew⟩ := sl_of htb.2.2.2.1
  subst ev; subst ew
  have hL3 : L.length ≤ 3 := by have := htb.2.2.2.2.choose; omega
  have hb2 : Below w2.heap.size w2 (w2.alloc (.cells #[.int .i64 1, .slice A es.length cap, .slice B L.length cbp] 25)) := (Below.refl _ _).alloc (Nat.le_refl _) _
  have HB0 : Hid (w1.heap.size ≤ w2.heap.size) := Lib.hid hg.size
  generalize w1.heap.size = base at htb HB0
  have H2 : Hid (Src W b (w2.alloc (.cells #[.int .i64 1, .slice A es.length cap, .slice B L.length cbp] 25)) ∧ Row (w2.alloc (.cells #[.int .i64 1, .slice A es.length cap, .slice B L.length cbp] 25)) w2.heap.size 25 #[.int .i64 1, .slice A es.length cap, .slice B L.length cbp] ∧ TbL b base (w2.alloc (.cells #[.int .i64 1, .slice A es.length cap, .slice B L.length cbp] 25)) (.slice A es.length cap) (.slice B L.length cbp) es ss L ∧ base ≤ (w2.alloc (.cells #[.int .i64 1, .slice A es.length cap, .slice B L.length cbp] 25)).heap.size ∧ W.heap.size ≤ w2.heap.size) := Lib.hid ⟨hs.under hb2, Row.new _ _ _, htb.under hb2, Nat.le_trans HB0.out hb2.size, hs.below.size⟩
  have HES := Lib.hid hes
  have HSS := Lib.hid hss
  clear hs htb hes hss hg H1 hb2 HB0
  go_upto_region 3 with fail
  refine forget (fun V => Hid (Src W b V ∧ Row V w2.heap.size 25 #[.int .i64 1, .slice A es.length cap, .slice B L.length cbp] ∧ TbL b base V (.slice A es.length cap) (.slice B L.length cbp) es ss L ∧ base ≤ V.heap.size ∧ W.heap.size ≤ w2.heap.size)) H2 ?_
  clear H2
  generalize w2.heap.size = g4
  intro V H2
  go_wp2_with fail
  refine (codes_any W b V 4 H2.out.1 (by decide)).mono ?_
  rintro e w3 ⟨vc, C, rfl, hnm, hlc, hs, hg⟩
  obtain ⟨Ac, cc, ec, -⟩ := id hnm.1
  subst ec
  have hx := (Below.refl w3.heap.size w3).alloc (Nat.le_refl _) (.cells #[.int .i64 12345, .slice Ac C.length cc] 58)
  have N1 := Lib.hid (two_at (Row.new w3 #[.int .i64 12345, .slice Ac C.length cc] 58))
  have H3 := Lib.hid (⟨hs.under hx, (H2.out.2.1.keep H2.out.1 hg (by decide)).under hx, (H2.out.2.2.1.step hg).under hx, Nat.le_trans H2.out.2.2.2.1 (Nat.le_trans hg.size hx.size), H2.out.2.2.2.2, hnm.under hx⟩ : Src W b (w3.alloc (.cells #[.int .i64 12345, .slice Ac C.length cc] 58)) ∧ Row (w3.alloc (.cells #[.int .i64 12345, .slice Ac C.length cc] 58)) g4 25 #[.int .i64 1, .slice A es.length cap, .slice B L.length cbp] ∧ TbL b base (w3.alloc (.cells #[.int .i64 12345, .slice Ac C.length cc] 58)) (.slice A es.length cap) (.slice B L.length cbp) es ss L ∧ base ≤ (w3.alloc (.cells #[.int .i64 12345, .slice Ac C.length cc] 58)).heap.size ∧ W.heap.size ≤ g4 ∧ NmO b (w3.alloc (.cells #[.int .i64 12345, .slice Ac C.length cc] 58)) (.slice Ac C.length cc) C)
  have hbb : b < base := H3.out.2.2.1.1
  obtain ⟨q0, q1, q2⟩ := row3 (H2.out.2.1.keep H2.out.1 hg (by decide))
  clear hs hg H2 hnm hx
  go_upto_region 5 with (at_builtin; refine wpList_append_own' rfl (.tmp 19) (.tmp 22) 23 rfl base 58 m0 _ 2 32 Tryd.underlying23 hm hx0 hx1 hx2 rfl (by decide) (.slice B L.length cbp) L.length (rowS L) rfl H3.out.2.2.1.2.2.2.1 ⟨w3.heap.size, 0, none⟩ 1 1 [.int .i64 12345, .slice Ac C.length cc] rfl rfl N1.out (fun z hz => by simp only [List.mem_cons, List.not_mem_nil, or_false] at hz; rcases hz with rfl | rfl <;> rfl) (by unfold maxLen; omega) (by omega) H3.out.2.2.2.1 ?_; intro v' w5 ho' hg3; (obtain ⟨A', cap', ev⟩ : ∃ A' cap', v' = .slice A' (L.length + 1) cap' := sl_of ho'); subst ev; have HA := Lib.hid (seq_state H3.out hbb ho' hg3); clear ho' hg3; have F2 := HA.out.1.thaw 2; have P2 := (row3 HA.out.1).2.2)
  have HS2 : Hid (Sst W g4 (.slice A es.length cap) (.slice A' (L.length + 1) cap') es (ss ++ [(12345, C)]) (.slice Ac C.length cc) C (w5.setCell ⟨g4, 2, none⟩ (.slice A' (L.length + 1) cap'))) := Lib.hid HA.out.2
  have HFs : Hid (fS (ss ++ [(12345, C)]) 12345 = some C) := Lib.hid (fS_last fun s hs => by
    obtain ⟨i, hi, rfl⟩ := List.getElem_of_mem hs
    have h1 := (HSS.out.2 i hi).1
    omega)
  clear HA F2 P2 H3 N1 q0 q1 q2 hL3 hbb
  refine forget (fun Y => Hid (Sst W g4 (.slice A es.length cap) (.slice A' (L.length + 1) cap') es (ss ++ [(12345, C)]) (.slice Ac C.length cc) C Y)) HS2 ?_
  clear HS2
  intro w6 J6
  generalize ss ++ [(12345, C)] = st at J6 HFs
  obtain ⟨z, hz⟩ : ∃ z, tbl 1 es st = z := ⟨_, rfl⟩
  have HR := refValidate_any _ 1 es st w6 J6.out.2.2.1
  rw [hz] at HR
  have HR := Lib.hid HR
  have HZ := Lib.hid hz
  clear hz
  obtain ⟨q0, q1, q2⟩ := row3 J6.out.2.1
  go_wp2_with fail
  refine HR.out.mono ?_
  rintro e w7 ⟨rfl, hb⟩
  have J7 := Lib.hid (J6.out.under hb)
  clear hb J6 HR q0 q1 q2
  by_cases z0 : z = 0
  case neg =>
    have z1 : (z == 0) = false := by simpa using z0
    go_wp2_with fail
    refine (awake_from (w0 := W) w7 (HT.out.under J7.out.1) J7.out.1).mono ?_
    rintro e w20 ⟨rfl, hb⟩
    have HF := Lib.hid hb
    clear hb
    go_wp2_with fail
    go_ret
    exact ⟨rfl, HF.out⟩
  subst z0
  go_upto_region 7 with fail
  have rc := Row.new w7 (([12345] : List Int).map (Value.int .i64)).toArray 3
  have hb := (Below.refl w7.heap.size w7).alloc (Nat.le_refl _) (.cells (([12345] : List Int).map (Value.int .i64)).toArray 3)
  have HD := Lib.hid (J7.out.under hb)
  have HX := Lib.hid (expand_any _ _ 1 es _ [12345] _ HD.out.2.2.1 (NmIn.row (C := [12345]) rc (fun x hx => by simp at hx; first | (rw [hx]; exact i64_small (by decide) (by decide)) | (rcases hx with rfl | rfl <;> exact i64_small (by decide) (by decide))) (by decide)) (HT.out.under HD.out.1))
  clear rc hb
  obtain ⟨q0, q1, q2⟩ := row3 J7.out.2.1
  clear J7
  go_wp2_with fail
  refine HX.out.mono ?_
  rintro e w8 ⟨x1, L1, a1, ha, rfl, hl3, hb⟩
  have HA1 := Lib.hid ha
  have HE1 := Lib.hid hl3
  have Jw8 := Lib.hid (HD.out.under hb)
  clear hl3 hb ha HX HD q0 q1 q2
  go_upto_region 8 with fail
  have HD := Lib.hid Jw8.out
  have HX := Lib.hid (expand_any _ _ 1 es _ C _ HD.out.2.2.1 HD.out.2.2.2 (HT.out.under HD.out.1))
  have K1 := HE1
  obtain ⟨q0, q1, q2⟩ := row3 Jw8.out.2.1
  clear Jw8
  go_wp2_with fail
  refine HX.out.mono ?_
  rintro e w9 ⟨x2, L2, a2, ha, rfl, hl3, hb⟩
  have HA2 := Lib.hid ha
  have HE2 := Lib.hid hl3
  have Jw9 := Lib.hid (HD.out.under hb)
  have HE1 := Lib.hid (K1.out.under hb)
  clear K1
  clear hl3 hb ha HX HD q0 q1 q2
  go_upto_region 9 with fail
  have rc := Row.new w9 (([12345, 100] : List Int).map (Value.int .i64)).toArray 3
  have hb := (Below.refl w9.heap.size w9).alloc (Nat.le_refl _) (.cells (([12345, 100] : List Int).map (Value.int .i64)).toArray 3)
  have HD := Lib.hid (Jw9.out.under hb)
  have HX := Lib.hid (expand_any _ _ 1 es _ [12345, 100] _ HD.out.2.2.1 (NmIn.row (C := [12345, 100]) rc (fun x hx => by simp at hx; first | (rw [hx]; exact i64_small (by decide) (by decide)) | (rcases hx with rfl | rfl <;> exact i64_small (by decide) (by decide))) (by decide)) (HT.out.under HD.out.1))
  have K1 := Lib.hid (HE1.out.under hb)
  have K2 := Lib.hid (HE2.out.under hb)
  clear rc hb
  obtain ⟨q0, q1, q2⟩ := row3 Jw9.out.2.1
  clear Jw9
  go_wp2_with fail
  refine HX.out.mono ?_
  rintro e w10 ⟨x3, L3, a3, ha, rfl, hl3, hb⟩
  have HA3 := Lib.hid ha
  have HE3 := Lib.hid hl3
  have Jw10 := Lib.hid (HD.out.under hb)
  have HE1 := Lib.hid (K1.out.under hb)
  clear K1
  have HE2 := Lib.hid (K2.out.under hb)
  clear K2
  clear hl3 hb ha HX HD q0 q1 q2
  by_cases e0 : x1 = 0
  case neg =>
    have e1 : (x1 == 0) = false := by simpa using e0
    have hsn := seq_no HZ.out (by omega) (by decide) HFs.out HA1.out HA2.out e0
    by_cases e2 : x2 = 0
    · obtain rfl : x1 = 2 := hsn.resolve_left (fun q => q e2)
      subst e2
      go_wp2_with fail
      refine (awake_from (w0 := W) w10 (HT.out.under Jw10.out.1) Jw10.out.1).mono ?_
      rintro e w20 ⟨rfl, hb⟩
      have HF := Lib.hid hb
      clear hb
      go_wp2_with fail
      go_ret
      exact ⟨rfl, HF.out⟩
    · have e3 : (x2 == 0) = false := by simpa using e2
      go_wp2_with fail
      refine (awake_from (w0 := W) w10 (HT.out.under Jw10.out.1) Jw10.out.1).mono ?_
      rintro e w20 ⟨rfl, hb⟩
      have HF := Lib.hid hb
      clear hb
      go_wp2_with fail
      go_ret
      exact ⟨rfl, HF.out⟩
  subst e0
  obtain ⟨rfl, rfl, hor⟩ := seq_yes HZ.out (by omega) (by decide) HFs.out (tab_find HES.out ⟨1, by decide, by decide, rfl⟩) HA1.out HA2.out HA3.out
  have HSM := same_any a1 a2 L1 L1 w10 HE1.out HE2.out
  rw [decide_eq_true rfl] at HSM
  have HSM := Lib.hid HSM
  have HE1' := HE1
  obtain ⟨A1, c1, ea1, -⟩ := HE1.out
  obtain ⟨A3, c3, ea3, -⟩ := HE3.out
  subst ea1; subst ea3
  have hlL : L1.length ≤ 1000000 := by
    rcases ans_run HA1.out HZ.out (by simp) with ⟨q, -⟩ | ⟨-, tk, q⟩
    · exact absurd rfl q
    · have := q.le60 (by simp) _ _ rfl
      omega
  rcases hor with ⟨rfl, hl⟩ | rfl
  · have hl2 : (L3.length : Int) = (L1.length : Int) + 1 := by omega
    have hl3 : ((L3.length : Int) == (L1.length : Int) + 1) = true := by simpa using hl2
    go_wp2_with fail
    refine HSM.out.mono ?_
    rintro e w11 ⟨rfl, hb⟩
    have J11 := Lib.hid (Jw10.out.under hb)
    clear hb HSM
    go_wp2_with fail
    refine (awake_from (w0 := W) w11 (HT.out.under J11.out.1) J11.out.1).mono ?_
    rintro e w20 ⟨rfl, hb⟩
    have HF := Lib.hid hb
    clear hb
    go_wp2_with fail
    go_ret
    exact ⟨rfl, HF.out⟩
  · go_wp2_with fail
    refine HSM.out.mono ?_
    rintro e w11 ⟨rfl, hb⟩
    have J11 := Lib.hid (Jw10.out.under hb)
    clear hb HSM
    go_wp2_with fail
    refine (awake_from (w0 := W) w11 (HT.out.under J11.out.1) J11.out.1).mono ?_
    rintro e w20 ⟨rfl, hb⟩
    have HF := Lib.hid hb
    clear hb
    go_wp2_with fail
    go_ret
    exact ⟨rfl, HF.out⟩
end Go.Proofs.YtjaopjhfjijdaaaDoor
