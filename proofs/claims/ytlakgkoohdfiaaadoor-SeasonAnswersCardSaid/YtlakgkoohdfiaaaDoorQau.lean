/- Texts of this proof. -/
import Derived.Test.YtlakgkoohdfiaaaDoorQak
import Derived.Test.YtlakgkoohdfiaaaDoorCmN
import Derived.Test.YtlakgkoohdfiaaaDoorQaq
namespace Go.Proofs.YtlakgkoohdfiaaaDoor
open Go.RowKit

/-- A reading is rejected. -/
def rej1 (N : List Cm.N5) (f mo : Int) (x : El.Elt.R) : Bool := match Cm.fndN N (x.1, f, mo) with
  | some n => farN n x.2
  | none => false
/-- The rejected elements. -/
def rejL (N : List Cm.N5) (f mo : Int) (L : List El.Elt.R) : List Int := (L.filter (rej1 N f mo)).map (·.1)
theorem rejL_snoc (N : List Cm.N5) (f mo : Int) (L : List El.Elt.R) (i : Nat) (h : i < L.length) : rejL N f mo (L.take (i + 1)) = rejL N f mo (L.take i) ++ (if rej1 N f mo L[i] = true then [L[i].1] else []) := by
  unfold rejL
  rw [List.take_add_one, List.getElem?_eq_getElem h, Option.toList_some, List.filter_append, List.map_append]
  congr 1
  by_cases q : rej1 N f mo L[i] = true
  · rw [if_pos q, List.filter_cons_of_pos q]; rfl
  · rw [if_neg q, List.filter_cons_of_neg q]; rfl
theorem rejL_len (N : List Cm.N5) (f mo : Int) (L : List El.Elt.R) : (rejL N f mo L).length ≤ L.length := by unfold rejL; rw [List.length_map]; exact List.length_filter_le _ _
theorem rejL_take (N : List Cm.N5) (f mo : Int) (L : List El.Elt.R) (i : Nat) : (rejL N f mo (L.take i)).length ≤ L.length := Nat.le_trans (rejL_len _ _ _ _) (by rw [List.length_take]; omega)
/-- A normal of a valid climate is small. -/
theorem fnd_ok {N : List Cm.N5} {k : Cm.K3} {n : Cm.N5} (h : Cm.vldN N = 0) (hn : Cm.fndN N k = some n) : (-20000 ≤ n.2.2.2.1 ∧ n.2.2.2.1 ≤ 20000) ∧ 0 ≤ n.2.2.2.2 ∧ n.2.2.2.2 ≤ 20000 := by
  have hm : n ∈ N := List.mem_of_find?_eq_some hn
  have hc := (Cm.vldN_ok h).2.1 n hm
  unfold Cm.chkN at hc
  by_cases q : El.Elt.Ex n.1
  · rw [if_pos q] at hc
    by_cases q2 : 0 ≤ n.2.1 ∧ n.2.1 ≤ 19 ∧ 1 ≤ n.2.2.1 ∧ n.2.2.1 ≤ 12 ∧ -10000 ≤ n.2.2.2.1 ∧ n.2.2.2.1 ≤ 20000 ∧ 0 ≤ n.2.2.2.2 ∧ n.2.2.2.2 ≤ 20000
    · omega
    · rw [if_neg q2] at hc; omega
  · rw [if_neg q] at hc; omega
/-- What is known in Check's loop. -/
structure Sc (W : World) (gb gp : Nat) (v : Value) (N : List Cm.N5) (k : Int) (nm : ByteArray) (t F A B C : Int) (u : Value) (L : List El.Elt.R) (o : Value) (J : List Int) (w : World) : Prop where
  sv : Sv W gb gp v N k nm t F A B C u L w
  own : w.ownsRow W.heap.size 3 1 o J.length (nmc J)
section
variable {W w w' w9 : World} {gb gp : Nat} {v u o o' : Value} {N : List Cm.N5} {k t F A B C : Int} {nm : ByteArray} {L : List El.Elt.R} {J : List Int}
theorem Sc.under (h : Sc W gb gp v N k nm t F A B C u L o J w) (hb : Below w.heap.size w w') : Sc W gb gp v N k nm t F A B C u L o J w' := ⟨h.sv.under hb, El.own_under h.own hb⟩
theorem Sc.app {tmp : Obj} {x : Int} (h : Sc W gb gp v N k nm t F A B C u L o J w) (hN : NrIn W v N) (hL : El.RdIn W u L) (hE : Env W) (hg : (w.alloc tmp).grownBy w9 o.ownBlock)
    (ho : w9.ownsRow W.heap.size 3 1 o' (J.length + 1) (nmc J ++ [.int .i64 x])) : Sc W gb gp v N k nm t F A B C u L o' (J ++ [x]) w9 := by
  have h1 := h.sv.below.alloc h.sv.below.size tmp
  have hB : Below W.heap.size W w9 := h1.grown hg h1.size (fun i e => row_base h.own e)
  refine ⟨⟨hB, (h.sv.cl.alloc _).grown hg (fun e => row_not h.own h.sv.cl (by decide) e.symm), (h.sv.rp.alloc _).grown hg (fun e => row_not h.own h.sv.rp (by decide) e.symm), hN.under hB, hL.under hB, hE.under hB⟩, ?_⟩
  have e : nmc J ++ [.int .i64 x] = nmc (J ++ [x]) := by simp [nmc]
  rw [e] at ho
  rw [List.length_append]; exact ho
end
/-- What Check leaves. -/
def ChkS (W : World) (z : Int) (J : List Int) (e : Ending) (w : World) : Prop := ∃ o, e = .returned (.tuple #[o, .int .i64 z]) ∧ Below W.heap.size W w ∧ w.ownsRow W.heap.size 3 1 o J.length (nmc J)
noncomputable def chkJ (N : List Cm.N5) (L : List El.Elt.R) (fm : Int × Int × Int) : List Int := if valS N L fm = 0 then rejL N fm.1 fm.2.1 L else []
theorem own_none (w : World) (base : Nat) : w.ownsRow base 3 1 (.slice none 0 0) ([] : List Int).length (nmc []) := ⟨rfl, .inl ⟨rfl, rfl⟩⟩
theorem asc_le {L : List El.Elt.R} (h : El.Elt.vld L = 0) (ha : El.Elt.Asc L) : L.length ≤ 11 := by
  have hv := vld_vals h
  have key : ∀ i, ∀ hi : i < L.length, (i : Int) + 1 ≤ L[i].1 := fun i => by
    induction i with
    | zero => intro hi; have := (hv _ (List.getElem_mem hi)).1; unfold El.Elt.Ex at this; omega
    | succ i ih => intro hi; have h1 := ih (by omega); have h2 := ha i hi; push_cast; omega
  rcases Nat.eq_zero_or_pos L.length with q | q
  · omega
  · have h1 := key (L.length - 1) (by omega)
    have h2 := (hv _ (List.getElem_mem (show L.length - 1 < L.length by omega))).1
    unfold El.Elt.Ex at h2
    omega
theorem vld_asc' {L : List El.Elt.R} (h : El.Elt.vld L = 0) : El.Elt.Asc L := by
  unfold El.Elt.vld at h
  by_cases h1 : ∃ r ∈ L, El.Elt.chk r.1 r.2 = 4
  · rw [if_pos h1] at h; omega
  · by_cases h2 : ∃ r ∈ L, El.Elt.chk r.1 r.2 = 1
    · rw [if_neg h1, if_pos h2] at h; omega
    · by_cases h3 : El.Elt.Asc L
      · exact h3
      · rw [if_neg h1, if_neg h2, if_neg h3] at h; omega
theorem valS_ok {N : List Cm.N5} {L : List El.Elt.R} {fm : Int × Int × Int} (h : valS N L fm = 0) : Cm.vldN N = 0 ∧ El.Elt.vld L = 0 ∧ fm.2.2 = 0 := by
  unfold valS at h
  by_cases h0 : Cm.vldN N = 0
  · rw [if_pos h0] at h
    by_cases h1 : El.Elt.vld L = 0
    · rw [if_pos h1] at h; exact ⟨h0, h1, h⟩
    · rw [if_neg h1] at h; exact absurd h h1
  · rw [if_neg h0] at h; exact absurd h h0
set_option maxRecDepth 100000 in
set_option maxHeartbeats 4000000 in
theorem checkS_any (v : Value) (N : List Cm.N5) (k : Int) (nm : ByteArray) (t F A B C : Int) (u : Value) (L : List El.Elt.R) (w : World) (hN : NrIn w v N) (hL : El.RdIn w u L) (hE : Env w) :
    Calls Tryd.prog 33 #[clV v, repV k nm t F A B C u] w (ChkS w (valS N L (fam F A B C t)) (chkJ N L (fam F A B C t))) := by
  have I0 : Hid (Sv w w.heap.size (w.heap.size + 1) v N k nm t F A B C u L ((w.alloc (.cells #[v] 24)).alloc (.cells (repC k nm t F A B C u) 38))) := Lib.hid (Sv.start w v u N k t F A B C nm L hN hL hE)
  obtain ⟨i1, hi', hy0, hy1, hy2⟩ := info_parts infoIntC
  have HN0 := Lib.hid hN
  have HL0 := Lib.hid hL
  have HE0 := Lib.hid hE
  obtain ⟨V, cap, rfl, -⟩ := id hN
  obtain ⟨U, cu, rfl, -⟩ := id hL
  obtain ⟨s, hs⟩ : ∃ s, valS N L (fam F A B C t) = s := ⟨_, rfl⟩
  obtain ⟨D, hd⟩ : ∃ s, chkJ N L (fam F A B C t) = s := ⟨_, rfl⟩
  have HS := Lib.hid hs
  have HD := Lib.hid hd
  rw [hs, hd]
  clear hN hL hE hs hd
  go_enter Tryd.func33, Tryd.ntmps33
  go_upto_region 1 with fail
  refine forget (fun Y => Hid (Sv w w.heap.size (w.heap.size + 1) (.slice V N.length cap) N k nm t F A B C (.slice U L.length cu) L Y)) I0 ?_
  clear I0
  obtain ⟨gp, hgp⟩ : ∃ g, w.heap.size + 1 = g := ⟨_, rfl⟩
  obtain ⟨gb, hgb⟩ : ∃ g, w.heap.size = g := ⟨_, rfl⟩
  rw [hgp, hgb]
  clear hgp hgb
  rintro Y HI
  have q8 := (HI.out.cl.cell 0).trans rfl
  obtain ⟨q0, q1, q2, q3, q4, q5, q6, q7⟩ := row8 HI.out.rp
  have HV := Lib.hid (validateS_any _ N k nm t F A B C _ L Y HI.out.nr HI.out.rd HI.out.env)
  rw [HS.out] at HV
  go_wp2_with fail
  refine HV.out.mono ?_
  rintro e w1 ⟨rfl, g1⟩
  have I1 := Lib.hid (HI.out.under g1)
  clear g1 HI HV q0 q1 q2 q3 q4 q5 q6 q7 q8
  by_cases h0 : s = 0
  · subst h0
    obtain ⟨hv0, hv1, hv2⟩ := valS_ok HS.out
    obtain ⟨f, mo, er⟩ : Int × Int × Int := fam F A B C t
    have HFM : Hid (fam F A B C t = ((fam F A B C t).1, (fam F A B C t).2.1, 0)) := Lib.hid (by rw [← hv2])
    have HDD : Hid (D = rejL N (fam F A B C t).1 (fam F A B C t).2.1 L) := Lib.hid (by rw [← HD.out]; unfold chkJ; rw [if_pos HS.out])
    clear f mo er hv2 HD HS
    have HLk : Hid (∀ c (W : World), NrIn W (.slice V N.length cap) N → Env W → Calls Tryd.prog 26 #[clV (.slice V N.length cap), .int .i64 c, .agg #[.int .i64 F, .int .i64 A, .int .i64 B, .int .i64 C], .int .i64 t] W fun e w' => e = .returned (.tuple #[nV ((Cm.fndN N (c, (fam F A B C t).1, (fam F A B C t).2.1)).getD (0, 0, 0, 0, 0)), .int .i64 (if (Cm.fndN N (c, (fam F A B C t).1, (fam F A B C t).2.1)).isSome then 0 else 9)]) ∧ Below W.heap.size W w') := Lib.hid (fun c W h1 h2 => by
      have := lookup_any (.slice V N.length cap) N c F A B C t W h1 h2
      rw [HFM.out, lkpR_yes hv0] at this
      exact this)
    generalize (fam F A B C t).1 = f at *
    generalize (fam F A B C t).2.1 = mo at *
    have hl11 := asc_le hv1 (vld_asc' hv1)
    have HV0 := Lib.hid hv0
    clear hv0 hv1 HFM
    obtain ⟨q0, q1, q2, q3, q4, q5, q6, q7⟩ := row8 I1.out.rp
    have J0 : Hid (Sc w gb gp (.slice V N.length cap) N k nm t F A B C (.slice U L.length cu) L (.slice none 0 0) (rejL N f mo (L.take 0)) w1) := Lib.hid ⟨I1.out, own_none _ _⟩
    clear I1
    go_wp2_with fail
    go_loopw [7, 21] (fun o t' wr => ∃ i : Nat, i ≤ L.length ∧ t' = .int .i64 (i : Int) ∧ Hid (Sc w gb gp (.slice V N.length cap) N k nm t F A B C (.slice U L.length cu) L o (rejL N f mo (L.take i)) wr)) (fun _ t' _ => L.length - (intOf t').toNat)
    case atStart => exact ⟨0, Nat.zero_le _, rfl, J0⟩
    case round =>
      clear J0 q0 q1 q2 q3 q4 q5 q6 q7
      obtain ⟨i, hi, rfl, HJ⟩ := hrel
      by_cases hlt : i < L.length
      · obtain ⟨U', cu', e, -, -, hat⟩ := HJ.out.sv.rd
        injection e with e1 e2 e3
        subst e1
        obtain ⟨gu, off, rfl, hgl, c0, c1⟩ := hat i hlt
        have k0 : (0 : Int) ≤ (i : Int) := by omega
        have k1 : (i : Int) < (L.length : Int) := by omega
        have HRs := Lib.hid (rejL_snoc N f mo L i hlt)
        have hJl := rejL_take N f mo L i
        clear hat e3
        obtain ⟨J2, hJ2⟩ : ∃ q, rejL N f mo (L.take (i + 1)) = q := ⟨_, rfl⟩
        rw [hJ2] at HRs
        have HJ2 := Lib.hid hJ2
        clear hJ2
        generalize rejL N f mo (L.take i) = J at *
        generalize L[i] = x at *
        obtain ⟨xc, xv⟩ := x
        simp only at c0 c1
        obtain ⟨Ao, co, rfl⟩ := row_form HJ.out.own
        have b1 := (Below.refl wr.heap.size wr).alloc (Nat.le_refl _) (.cells #[.int .i64 xc, .int .i64 xv] 81)
        have I1 : Hid (Sc w gb gp (.slice V N.length cap) N k nm t F A B C (.slice (some ⟨gu, off, none⟩) L.length cu) L (.slice Ao J.length co) J (wr.alloc (.cells #[.int .i64 xc, .int .i64 xv] 81)) ∧ Row (wr.alloc (.cells #[.int .i64 xc, .int .i64 xv] 81)) wr.heap.size 81 #[.int .i64 xc, .int .i64 xv]) := Lib.hid ⟨HJ.out.under b1, Row.new _ _ _⟩
        clear b1 HJ
        go_upto_region 8 with fail
        refine forget (fun Y => Hid (Sc w gb gp (.slice V N.length cap) N k nm t F A B C (.slice (some ⟨gu, off, none⟩) L.length cu) L (.slice Ao J.length co) J Y ∧ Row Y wr.heap.size 81 #[.int .i64 xc, .int .i64 xv])) I1 ?_
        clear I1 c0 c1
        generalize wr.heap.size = gx at *
        rintro Y2 H2
        obtain ⟨x0, x1⟩ := row2 H2.out.2
        have q8 := (H2.out.1.sv.cl.cell 0).trans rfl
        obtain ⟨q0, q1, q2, q3, q4, q5, q6, q7⟩ := row8 H2.out.1.sv.rp
        have hkey : ∃ n er, (Cm.fndN N (xc, f, mo)).getD (0, 0, 0, 0, 0) = n ∧ (if (Cm.fndN N (xc, f, mo)).isSome = true then (0 : Int) else 9) = er ∧ ((er = 9 ∧ rej1 N f mo (xc, xv) = false) ∨ (er = 0 ∧ ((-20000 ≤ n.2.2.2.1 ∧ n.2.2.2.1 ≤ 20000) ∧ 0 ≤ n.2.2.2.2 ∧ n.2.2.2.2 ≤ 20000) ∧ rej1 N f mo (xc, xv) = farN n xv)) := by
          refine ⟨_, _, rfl, rfl, ?_⟩
          unfold rej1
          dsimp only
          cases hf : Cm.fndN N (xc, f, mo) with
          | none => exact .inl ⟨rfl, rfl⟩
          | some n => exact .inr ⟨rfl, fnd_ok HV0.out hf, rfl⟩
        obtain ⟨n, er, hn, her, hcs⟩ := hkey
        have HLx := HLk.out xc _ H2.out.1.sv.nr H2.out.1.sv.env
        rw [hn, her] at HLx
        have HLX := Lib.hid HLx
        clear HLx hn her
        go_wp2_with fail
        refine HLX.out.mono ?_
        rintro e w3 ⟨rfl, g3⟩
        have H3 := Lib.hid (And.intro (H2.out.1.under g3) (H2.out.2.under g3))
        have b4 := (Below.refl w3.heap.size w3).alloc (Nat.le_refl _) (.cells #[.int .i64 n.1, .int .i64 n.2.1, .int .i64 n.2.2.1, .int .i64 n.2.2.2.1, .int .i64 n.2.2.2.2] 50)
        have H4 : Hid ((Sc w gb gp (.slice V N.length cap) N k nm t F A B C (.slice (some ⟨gu, off, none⟩) L.length cu) L (.slice Ao J.length co) J (w3.alloc (.cells #[.int .i64 n.1, .int .i64 n.2.1, .int .i64 n.2.2.1, .int .i64 n.2.2.2.1, .int .i64 n.2.2.2.2] 50)) ∧ Row (w3.alloc (.cells #[.int .i64 n.1, .int .i64 n.2.1, .int .i64 n.2.2.1, .int .i64 n.2.2.2.1, .int .i64 n.2.2.2.2] 50)) gx 81 #[.int .i64 xc, .int .i64 xv]) ∧ Row (w3.alloc (.cells #[.int .i64 n.1, .int .i64 n.2.1, .int .i64 n.2.2.1, .int .i64 n.2.2.2.1, .int .i64 n.2.2.2.2] 50)) w3.heap.size 50 #[.int .i64 n.1, .int .i64 n.2.1, .int .i64 n.2.2.1, .int .i64 n.2.2.2.1, .int .i64 n.2.2.2.2]) := Lib.hid ⟨⟨H3.out.1.under b4, H3.out.2.under b4⟩, Row.new _ _ _⟩
        clear g3 b4 H2 H3 HLX x0 x1 q0 q1 q2 q3 q4 q5 q6 q7 q8
        go_upto_region 9 with fail
        refine forget (fun Y => Hid ((Sc w gb gp (.slice V N.length cap) N k nm t F A B C (.slice (some ⟨gu, off, none⟩) L.length cu) L (.slice Ao J.length co) J Y ∧ Row Y gx 81 #[.int .i64 xc, .int .i64 xv]) ∧ Row Y w3.heap.size 50 #[.int .i64 n.1, .int .i64 n.2.1, .int .i64 n.2.2.1, .int .i64 n.2.2.2.1, .int .i64 n.2.2.2.2])) H4 ?_
        clear H4
        generalize w3.heap.size = gn at *
        rintro Y4 H4
        rcases hcs with ⟨rfl, hr⟩ | ⟨rfl, ⟨hb1, hb2⟩, hr⟩
        · have HR2 : Hid (J2 = J) := Lib.hid (by rw [HRs.out, hr]; simp)
          clear hr
          go_wp2_with fail
          go_roundw
          case rel => exact ⟨i + 1, by omega, by go_num, by rw [HJ2.out, HR2.out]; exact Lib.hid H4.out.1.1⟩
          case measure => simp [intOf]; omega
        · obtain ⟨x0, x1⟩ := row2 H4.out.1.2
          obtain ⟨y0, y1, y2, y3, y4⟩ := row5 H4.out.2
          have HF := Lib.hid (isFar_any xv n Y4 hb1 hb2)
          rw [← hr] at HF
          clear hr hb1 hb2
          generalize rej1 N f mo (xc, xv) = bb at *
          go_wp2_with fail
          refine HF.out.mono ?_
          rintro e w5 ⟨rfl, g5⟩
          have H5 := Lib.hid (And.intro (H4.out.1.1.under g5) (H4.out.1.2.under g5))
          clear g5 H4 HF x0 x1 y0 y1 y2 y3 y4
          cases bb with
          | false =>
            have HR2 : Hid (J2 = J) := Lib.hid (by rw [HRs.out]; simp)
            clear HRs
            go_wp2_with fail
            go_roundw
            case rel => exact ⟨i + 1, by omega, by go_num, by rw [HJ2.out, HR2.out]; exact Lib.hid H5.out.1⟩
            case measure => simp [intOf]; omega
          | true =>
            have HR2 : Hid (J2 = J ++ [xc]) := Lib.hid (by rw [HRs.out]; simp)
            clear HRs
            obtain ⟨x0, x1⟩ := row2 H5.out.2
            have HRW := Lib.hid (El.own_under H5.out.1.own ((Below.refl w5.heap.size w5).alloc (Nat.le_refl _) (.cells #[.int .i64 xc] 3)))
            have HC1 : Hid (∀ j z, [Value.int .i64 xc][j]? = some z → (w5.alloc (.cells #[.int .i64 xc] 3)).cell? ((⟨w5.heap.size, 0, none⟩ : Addr).add j) = some z) := Lib.hid (fun j z hz => by
              have hj : j < 1 := (List.getElem?_eq_some_iff.1 hz).1
              obtain rfl : j = 0 := by omega
              rw [Addr.add_lit, Nat.zero_add, (Row.new w5 #[.int .i64 xc] 3).cell 0, ← hz]; rfl)
            have hsz : w.heap.size ≤ w5.heap.size := H5.out.1.sv.below.size
            go_wp2_with (at_builtin; refine wpList_append_own' rfl (.tmp 44) (.tmp 47) 28 rfl w.heap.size 3 i1 (.int .i64 0) 1 8 Tryd.underlying28 hi' hy0 hy1 hy2 rfl (by decide) (.slice Ao J.length co) J.length (nmc J) rfl HRW.out ⟨w5.heap.size, 0, none⟩ 1 1 [.int .i64 xc] rfl rfl HC1.out (fun u hu => by simp only [List.mem_cons, List.not_mem_nil, or_false] at hu; subst hu; rfl) (by unfold maxLen; omega) (by omega) (Nat.le_trans hsz ((Below.refl _ _).alloc (Nat.le_refl _) _ : Below w5.heap.size w5 _).size) ?_; intro v' w9 ho' hg'; obtain ⟨A', cap', ev⟩ : ∃ A' cap', v' = .slice A' (J.length + 1) cap' := row_form ho'; subst ev)
            have H9 : Hid (Sc w gb gp (.slice V N.length cap) N k nm t F A B C (.slice (some ⟨gu, off, none⟩) L.length cu) L (.slice A' (J.length + 1) cap') (J ++ [xc]) w9) := Lib.hid (H5.out.1.app HN0.out HL0.out HE0.out hg' ho')
            clear ho' hg' H5 HRW HC1 hsz x0 x1
            go_wp2_with fail
            go_roundw
            case rel => exact ⟨i + 1, by omega, by go_num, by rw [HJ2.out, HR2.out]; exact H9⟩
            case measure => simp [intOf]; omega
      · obtain rfl : i = L.length := by omega
        have j1 : ¬ (L.length : Int) < (L.length : Int) := by omega
        have HE : Hid (D = rejL N f mo (L.take L.length)) := Lib.hid (by rw [HDD.out, List.take_length])
        go_wp2_with fail
        go_ret2
        exact ⟨_, rfl, HJ.out.sv.below, by rw [HE.out]; exact HJ.out.own⟩
  · have k0 : (s != 0) = true := by rw [bne_iff_ne]; exact h0
    have HR : Hid (D = []) := Lib.hid (by rw [← HD.out]; unfold chkJ; rw [if_neg (by rw [HS.out]; exact h0)])
    clear h0
    go_wp2_with fail
    go_ret2
    refine ⟨_, rfl, I1.out.below, ?_⟩
    rw [HR.out]
    exact own_none _ _
end Go.Proofs.YtlakgkoohdfiaaaDoor

namespace Go.Proofs.YtlakgkoohdfiaaaDoor
open Go.RowKit

/-- What Far answers. -/
noncomputable def farR (N : List Cm.N5) (L : List El.Elt.R) (c : Int) (fm : Int × Int × Int) : Int × Bool :=
  if valS N L fm = 0 then match El.Elt.fnd L c, Cm.fndN N (c, fm.1, fm.2.1) with
    | some v, some n => (v - n.2.2.2.1, true)
    | _, _ => (0, false)
  else (0, false)
set_option maxRecDepth 100000 in
set_option maxHeartbeats 4000000 in
theorem farS_any (v : Value) (N : List Cm.N5) (k : Int) (nm : ByteArray) (t F A B C : Int) (u : Value) (L : List El.Elt.R) (c : Int) (w : World) (hN : NrIn w v N) (hL : El.RdIn w u L) (hE : Env w) :
    Calls Tryd.prog 36 #[clV v, repV k nm t F A B C u, .int .i64 c] w fun e w' => e = .returned (.tuple #[.int .i64 (farR N L c (fam F A B C t)).1, .bool (farR N L c (fam F A B C t)).2]) ∧ Below w.heap.size w w' := by
  have I0 : Hid (Sv w w.heap.size (w.heap.size + 1) v N k nm t F A B C u L ((w.alloc (.cells #[v] 24)).alloc (.cells (repC k nm t F A B C u) 38))) := Lib.hid (Sv.start w v u N k t F A B C nm L hN hL hE)
  obtain ⟨V, cap, rfl, -⟩ := id hN
  obtain ⟨U, cu, rfl, -⟩ := id hL
  obtain ⟨s, hs⟩ : ∃ s, valS N L (fam F A B C t) = s := ⟨_, rfl⟩
  obtain ⟨D, hd⟩ : ∃ s, farR N L c (fam F A B C t) = s := ⟨_, rfl⟩
  have HS := Lib.hid hs
  have HD := Lib.hid hd
  rw [hd]
  clear hN hL hE hs hd
  go_enter Tryd.func36, Tryd.ntmps36
  go_upto_region 1 with fail
  refine forget (fun Y => Hid (Sv w w.heap.size (w.heap.size + 1) (.slice V N.length cap) N k nm t F A B C (.slice U L.length cu) L Y)) I0 ?_
  clear I0
  obtain ⟨gp, hgp⟩ : ∃ g, w.heap.size + 1 = g := ⟨_, rfl⟩
  obtain ⟨gb, hgb⟩ : ∃ g, w.heap.size = g := ⟨_, rfl⟩
  rw [hgp, hgb]
  clear hgp hgb
  rintro Y HI
  have q8 := (HI.out.cl.cell 0).trans rfl
  obtain ⟨q0, q1, q2, q3, q4, q5, q6, q7⟩ := row8 HI.out.rp
  have HV := Lib.hid (validateS_any _ N k nm t F A B C _ L Y HI.out.nr HI.out.rd HI.out.env)
  rw [HS.out] at HV
  go_wp2_with fail
  refine HV.out.mono ?_
  rintro e w1 ⟨rfl, g1⟩
  have I1 := Lib.hid (HI.out.under g1)
  clear g1 HI HV q0 q1 q2 q3 q4 q5 q6 q7 q8
  by_cases h0 : s = 0
  · subst h0
    obtain ⟨hv0, hv1, hv2⟩ := valS_ok HS.out
    have HFM : Hid (fam F A B C t = ((fam F A B C t).1, (fam F A B C t).2.1, 0)) := Lib.hid (by rw [← hv2])
    have HDD : Hid (D = match El.Elt.fnd L c, Cm.fndN N (c, (fam F A B C t).1, (fam F A B C t).2.1) with
      | some v, some n => (v - n.2.2.2.1, true)
      | _, _ => (0, false)) := Lib.hid (by rw [← HD.out]; unfold farR; rw [if_pos HS.out])
    have HLk : Hid (∀ (W : World), NrIn W (.slice V N.length cap) N → Env W → Calls Tryd.prog 26 #[clV (.slice V N.length cap), .int .i64 c, .agg #[.int .i64 F, .int .i64 A, .int .i64 B, .int .i64 C], .int .i64 t] W fun e w' => e = .returned (.tuple #[nV ((Cm.fndN N (c, (fam F A B C t).1, (fam F A B C t).2.1)).getD (0, 0, 0, 0, 0)), .int .i64 (if (Cm.fndN N (c, (fam F A B C t).1, (fam F A B C t).2.1)).isSome then 0 else 9)]) ∧ Below W.heap.size W w') := Lib.hid (fun W h1 h2 => by
      have := lookup_any (.slice V N.length cap) N c F A B C t W h1 h2
      rw [HFM.out, lkpR_yes hv0] at this
      exact this)
    have HK : Hid (∃ x y, (El.Elt.fnd L c).getD 0 = x ∧ (El.Elt.fnd L c).isSome = y ∧ ∃ n er, (Cm.fndN N (c, (fam F A B C t).1, (fam F A B C t).2.1)).getD (0, 0, 0, 0, 0) = n ∧ (if (Cm.fndN N (c, (fam F A B C t).1, (fam F A B C t).2.1)).isSome = true then (0 : Int) else 9) = er ∧ ((y = false ∧ D = (0, false)) ∨ (y = true ∧ er = 9 ∧ D = (0, false)) ∨ (y = true ∧ er = 0 ∧ (-1000 ≤ x ∧ x ≤ 11000) ∧ (-20000 ≤ n.2.2.2.1 ∧ n.2.2.2.1 ≤ 20000) ∧ D = (x - n.2.2.2.1, true)))) := Lib.hid (by
      rw [HDD.out]
      refine ⟨_, _, rfl, rfl, _, _, rfl, rfl, ?_⟩
      cases hf : El.Elt.fnd L c with
      | none => exact .inl ⟨rfl, rfl⟩
      | some x =>
        cases hn : Cm.fndN N (c, (fam F A B C t).1, (fam F A B C t).2.1) with
        | none => exact .inr (.inl ⟨rfl, rfl, rfl⟩)
        | some n =>
          refine .inr (.inr ⟨rfl, rfl, ?_, (fnd_ok hv0 hn).1, rfl⟩)
          unfold El.Elt.fnd at hf
          obtain ⟨y, hy, rfl⟩ := Option.map_eq_some_iff.1 hf
          have := El.Elt.val_bd (vld_vals hv1 y (List.mem_of_find?_eq_some hy))
          simp only [Option.getD_some]; omega)
    obtain ⟨x, y, hx, hy, n, er, hn, her, hcs⟩ := HK.out
    rw [hn, her] at HLk
    clear hv0 hv1 hv2 HFM HDD HK HD HS hn her
    obtain ⟨q0, q1, q2, q3, q4, q5, q6, q7⟩ := row8 I1.out.rp
    have HFi := El.find_any _ L c w1 I1.out.rd
    unfold El.FndR at HFi
    rw [hx, hy] at HFi
    have HFI := Lib.hid HFi
    clear HFi hx hy
    go_wp2_with fail
    refine HFI.out.mono ?_
    rintro e w2 ⟨rfl, g2⟩
    have I2 := Lib.hid (I1.out.under g2)
    clear g2 I1 HFI q0 q1 q2 q3 q4 q5 q6 q7
    obtain ⟨q0, q1, q2, q3, q4, q5, q6, q7⟩ := row8 I2.out.rp
    have q8 := (I2.out.cl.cell 0).trans rfl
    have HLX := Lib.hid (HLk.out w2 I2.out.nr I2.out.env)
    go_wp2_with fail
    refine HLX.out.mono ?_
    rintro e w3 ⟨rfl, g3⟩
    have I3 := Lib.hid (I2.out.under g3)
    have H4 : Hid (Below w.heap.size w (w3.alloc (.cells #[.int .i64 n.1, .int .i64 n.2.1, .int .i64 n.2.2.1, .int .i64 n.2.2.2.1, .int .i64 n.2.2.2.2] 50)) ∧ Row (w3.alloc (.cells #[.int .i64 n.1, .int .i64 n.2.1, .int .i64 n.2.2.1, .int .i64 n.2.2.2.1, .int .i64 n.2.2.2.2] 50)) w3.heap.size 50 #[.int .i64 n.1, .int .i64 n.2.1, .int .i64 n.2.2.1, .int .i64 n.2.2.2.1, .int .i64 n.2.2.2.2]) := Lib.hid ⟨I3.out.below.alloc I3.out.below.size _, Row.new _ _ _⟩
    clear g3 I2 I3 HLX q0 q1 q2 q3 q4 q5 q6 q7 q8
    go_upto_region 5 with fail
    refine forget (fun Y => Hid (Below w.heap.size w Y ∧ Row Y w3.heap.size 50 #[.int .i64 n.1, .int .i64 n.2.1, .int .i64 n.2.2.1, .int .i64 n.2.2.2.1, .int .i64 n.2.2.2.2])) H4 ?_
    clear H4
    generalize w3.heap.size = gn at *
    rintro Y4 H4
    obtain ⟨y0, y1, y2, y3, y4⟩ := row5 H4.out.2
    rcases hcs with ⟨rfl, rfl⟩ | ⟨rfl, rfl, rfl⟩ | ⟨rfl, rfl, ⟨x1, x2⟩, ⟨n1, n2⟩, rfl⟩
    · go_wp2_with fail
      go_ret2
      exact ⟨rfl, H4.out.1⟩
    · go_wp2_with fail
      go_ret2
      exact ⟨rfl, H4.out.1⟩
    · have y9 : IntKind.i64.wrap (x - n.2.2.2.1) = x - n.2.2.2.1 := IntWalk.i64_in _ (by omega)
      go_wp2_with fail
      go_ret2
      exact ⟨rfl, H4.out.1⟩
  · have k0 : (s != 0) = true := by rw [bne_iff_ne]; exact h0
    obtain rfl : D = (0, false) := by rw [← HD.out]; unfold farR; rw [if_neg (by rw [HS.out]; exact h0)]
    clear h0 HD
    go_wp2_with fail
    go_ret2
    exact ⟨rfl, I1.out.below⟩
end Go.Proofs.YtlakgkoohdfiaaaDoor

namespace Go.Proofs.YtlakgkoohdfiaaaDoor
open Go.RowKit

/-- The example's climate. -/
def exN : List Cm.N5 := [(1, 0, 1, 10135, 6)]
theorem ex_vldN : Cm.vldN exN = 0 := vldN_zero (by decide) (fun n hn => by simp only [exN, List.mem_cons, List.not_mem_nil, or_false] at hn; subst hn; decide) (fun j hj => by simp [exN] at hj)
theorem ex_vld {x : Int} (h1 : 8000 ≤ x) (h2 : x ≤ 11000) : El.Elt.vld [(1, x)] = 0 :=
  (El.Elt.vld_good (fun r hr => by simp only [List.mem_cons, List.not_mem_nil, or_false] at hr; subst hr; exact ⟨show El.Elt.Ex 1 by decide, by show (8000 : Int) ≤ x; exact h1, by show x ≤ 11000; exact h2⟩)).1 (fun j hj => by simp at hj)
theorem ex_valS {x : Int} (h1 : 8000 ≤ x) (h2 : x ≤ 11000) : valS exN [(1, x)] (0, 1, 0) = 0 := by unfold valS; rw [if_pos ex_vldN, if_pos (ex_vld h1 h2)]
theorem ex_fnd : Cm.fndN exN (1, 0, 1) = some (1, 0, 1, 10135, 6) := by decide
theorem ex_yes : chkJ exN [(1, 10142)] (0, 1, 0) = [1] := by
  unfold chkJ
  rw [if_pos (ex_valS (by decide) (by decide))]
  decide
theorem ex_no : chkJ exN [(1, 10141)] (0, 1, 0) = [] := by
  unfold chkJ
  rw [if_pos (ex_valS (by decide) (by decide))]
  decide
theorem ex_far : farR exN [(1, 10142)] 1 (0, 1, 0) = (7, true) := by
  unfold farR
  rw [if_pos (ex_valS (by decide) (by decide)), show El.Elt.fnd [(1, 10142)] 1 = some 10142 by decide, show Cm.fndN exN (1, (0, 1, 0).1, (0, 1, 0).2.1) = some (1, 0, 1, 10135, 6) from ex_fnd]
  rfl
theorem ex_nr {w : World} {g : Nat} (h : Row w g 50 #[.int .i64 1, .int .i64 0, .int .i64 1, .int .i64 10135, .int .i64 6]) : NrIn w (.slice (some ⟨g, 0, none⟩) 1 1) exN :=
  ⟨_, 1, rfl, Nat.le_refl _, by decide, fun i hi => ⟨g, 0, rfl, h.lt, by
    obtain rfl : i = 0 := by simp [exN] at hi; omega
    exact row5 h⟩⟩
theorem ex_rd {w : World} {g : Nat} {x : Int} (h : Row w g 81 #[.int .i64 1, .int .i64 x]) : El.RdIn w (.slice (some ⟨g, 0, none⟩) 1 1) [(1, x)] :=
  ⟨_, 1, rfl, Nat.le_refl _, by decide, fun i hi => ⟨g, 0, rfl, h.lt, by
    obtain rfl : i = 0 := by simp at hi; omega
    exact row2 h⟩⟩
/-- What is known in the example. -/
structure Exm (W : World) (gn gb gp gr : Nat) (x : Int) (w : World) : Prop where
  below : Below W.heap.size W w
  nr : Row w gn 50 #[.int .i64 1, .int .i64 0, .int .i64 1, .int .i64 10135, .int .i64 6]
  cl : Row w gb 24 #[.slice (some ⟨gn, 0, none⟩) 1 1]
  rd : Row w gr 81 #[.int .i64 1, .int .i64 x]
  rp : Row w gp 38 (repC 0 ⟨#[]⟩ 0 0 840 0 0 (.slice (some ⟨gr, 0, none⟩) 1 1))
theorem Exm.under {W w w' : World} {gn gb gp gr : Nat} {x : Int} (h : Exm W gn gb gp gr x w) (hb : Below w.heap.size w w') : Exm W gn gb gp gr x w' :=
  ⟨h.below.trans (hb.mono h.below.size), h.nr.under hb, h.cl.under hb, h.rd.under hb, h.rp.under hb⟩
set_option maxRecDepth 100000 in
set_option maxHeartbeats 4000000 in
theorem awake15 (w : World) (hE : Env w) : Calls Tryd.prog 31 #[] w fun e w' => e = .returned (.bool true) ∧ Below w.heap.size w w' := by
  have HE := Lib.hid hE
  clear hE
  go_enter Tryd.func31, Tryd.ntmps31
  go_upto_region 3 with fail
  refine forget (fun Y => Hid (Exm w w.heap.size (w.heap.size + 1) (w.heap.size + 1 + 1 + 1) (w.heap.size + 1 + 1) 10142 Y)) ?_ ?_
  · have b0 := (Below.refl w.heap.size w).alloc (Nat.le_refl _) (.cells #[.int .i64 1, .int .i64 0, .int .i64 1, .int .i64 10135, .int .i64 6] 50)
    have b1 := b0.alloc b0.size (.cells #[.slice (some ⟨w.heap.size, 0, none⟩) 1 1] 24)
    have b2 := b1.alloc b1.size (.cells #[.int .i64 1, .int .i64 10142] 81)
    have b3 := b2.alloc b2.size (.cells (repC 0 ⟨#[]⟩ 0 0 840 0 0 (.slice (some ⟨w.heap.size + 1 + 1, 0, none⟩) 1 1)) 38)
    exact Lib.hid ⟨b3, (((Row.new _ _ _).alloc _).alloc _).alloc _, ((Row.newAt (by simp)).alloc _).alloc _, (Row.newAt (by simp)).alloc _, Row.newAt (by simp)⟩
  have HSz := Lib.hid (show w.heap.size ≤ w.heap.size + 1 + 1 + 1 by omega)
  obtain ⟨gp, hgp⟩ : ∃ g, w.heap.size + 1 + 1 + 1 = g := ⟨_, rfl⟩
  obtain ⟨gr, hgr⟩ : ∃ g, w.heap.size + 1 + 1 = g := ⟨_, rfl⟩
  obtain ⟨gb, hgb⟩ : ∃ g, w.heap.size + 1 = g := ⟨_, rfl⟩
  obtain ⟨gn, hgn⟩ : ∃ g, w.heap.size = g := ⟨_, rfl⟩
  rw [hgp] at HSz
  rw [hgp, hgr, hgb, hgn]
  have HGN := Lib.hid hgn
  clear hgp hgr hgb hgn
  rintro Y HY
  have HEY := Lib.hid (HE.out.under HY.out.below)
  have q8 := (HY.out.cl.cell 0).trans rfl
  obtain ⟨q0, q1, q2, q3, q4, q5, q6, q7⟩ := row8 HY.out.rp
  have HC := checkS_any _ exN 0 ⟨#[]⟩ 0 0 840 0 0 _ [(1, 10142)] Y (ex_nr HY.out.nr) (ex_rd HY.out.rd) HEY.out
  rw [fam_0, ex_valS (by decide) (by decide), ex_yes] at HC
  have HCC := Lib.hid HC
  clear HC
  go_wp2_with fail
  refine HCC.out.mono ?_
  rintro e w1 ⟨o, rfl, g1, ho⟩
  have H1 := Lib.hid (And.intro (HY.out.under g1) ho)
  clear g1 ho HY HEY HCC q0 q1 q2 q3 q4 q5 q6 q7 q8
  have HEY := Lib.hid (HE.out.under H1.out.1.below)
  have q8 := (H1.out.1.cl.cell 0).trans rfl
  obtain ⟨q0, q1, q2, q3, q4, q5, q6, q7⟩ := row8 H1.out.1.rp
  have HC := farS_any _ exN 0 ⟨#[]⟩ 0 0 840 0 0 _ [(1, 10142)] 1 w1 (ex_nr H1.out.1.nr) (ex_rd H1.out.1.rd) HEY.out
  rw [fam_0, ex_far] at HC
  have HCC := Lib.hid HC
  clear HC
  go_wp2_with fail
  refine HCC.out.mono ?_
  rintro e w2 ⟨rfl, g2⟩
  have H2 := Lib.hid (And.intro (H1.out.1.under g2) (El.own_under H1.out.2 g2))
  clear g2 H1 HEY HCC q0 q1 q2 q3 q4 q5 q6 q7 q8
  have r7 := H2.out.1.rp.alloc (.cells #[.int .i64 1, .int .i64 10141] 81)
  have f7 := r7.thaw 7
  have q7 := (row8 r7).2.2.2.2.2.2.2
  clear r7
  go_upto_region 6 with fail
  have H3 : Hid (Exm w gn gb gp w2.heap.size 10141 ((w2.alloc (.cells #[.int .i64 1, .int .i64 10141] 81)).setCell ⟨gp, 7, none⟩ (.slice (some ⟨w2.heap.size, 0, none⟩) 1 1)) ∧ ((w2.alloc (.cells #[.int .i64 1, .int .i64 10141] 81)).setCell ⟨gp, 7, none⟩ (.slice (some ⟨w2.heap.size, 0, none⟩) 1 1)).ownsRow Y.heap.size 3 1 o [(1 : Int)].length (nmc [1])) := Lib.hid (by
    have h := H2.out.1
    have b3 := (Below.refl w2.heap.size w2).alloc (Nat.le_refl _) (.cells #[.int .i64 1, .int .i64 10141] 81)
    have h3 := h.under b3
    have hgp := h.rp.lt
    refine ⟨⟨set1_below h3.below HSz.out, h3.nr.far (p := ⟨gp, 7, none⟩) (row_ne h.nr h.rp (by decide)).symm _, h3.cl.far (p := ⟨gp, 7, none⟩) (row_ne h.cl h.rp (by decide)).symm _, (Row.new _ _ _).far (p := ⟨gp, 7, none⟩) (by show gp ≠ _; omega) _, ?_⟩, ?_⟩
    · have r := h3.rp.put 7 (.slice (some ⟨w2.heap.size, 0, none⟩) 1 1)
      exact r
    · have ho := El.own_under H2.out.2 b3
      exact own_heap ho (fun i hi => Below.heap_setCell _ ⟨gp, 7, none⟩ _ i (fun e => row_not ho h3.rp (by decide) (by have e' : i = gp := e; rw [← e']; exact hi))))
  refine forget (fun Y3 => Hid (Exm w gn gb gp w2.heap.size 10141 Y3 ∧ Y3.ownsRow Y.heap.size 3 1 o [(1 : Int)].length (nmc [1]))) H3 ?_
  clear H3 H2 f7 q7
  generalize w2.heap.size = gr2 at *
  rintro Y3 H3
  have HEY := Lib.hid (HE.out.under H3.out.1.below)
  have q8 := (H3.out.1.cl.cell 0).trans rfl
  obtain ⟨q0, q1, q2, q3, q4, q5, q6, q7⟩ := row8 H3.out.1.rp
  have HC := checkS_any _ exN 0 ⟨#[]⟩ 0 0 840 0 0 _ [(1, 10141)] Y3 (ex_nr H3.out.1.nr) (ex_rd H3.out.1.rd) HEY.out
  rw [fam_0, ex_valS (by decide) (by decide), ex_no] at HC
  have HCC := Lib.hid HC
  clear HC
  go_wp2_with fail
  refine HCC.out.mono ?_
  rintro e w4 ⟨o2, rfl, g4, ho2⟩
  have H4 := Lib.hid (And.intro (H3.out.1.under g4) (El.own_under H3.out.2 g4))
  clear g4 H3 HEY HCC q0 q1 q2 q3 q4 q5 q6 q7 q8
  obtain ⟨A2, c2, rfl⟩ := row_form ho2
  clear ho2
  have b5 := (Below.refl w4.heap.size w4).alloc (Nat.le_refl _) (.cells #[.int .i64 1] 3)
  have HI := Lib.hid (ints_any o (.slice (some ⟨w4.heap.size, 0, none⟩) 1 1) [1] [1] (w4.alloc (.cells #[.int .i64 1] 3)) (NmIn.own (El.own_under H4.out.2 b5)) ⟨_, 1, rfl, Nat.le_refl _, by decide, fun i hi => ⟨w4.heap.size, 0, rfl, (Row.new _ _ _).lt, by
    obtain rfl : i = 0 := by simp at hi; omega
    exact ((Row.new w4 #[.int .i64 1] 3).cell 0).trans rfl⟩⟩)
  have HB5 := Lib.hid (H4.out.1.below.alloc H4.out.1.below.size (.cells #[.int .i64 1] 3))
  clear b5
  go_wp2_with fail
  refine HI.out.mono ?_
  rintro e w6 ⟨rfl, g6⟩
  have HB6 := Lib.hid (HB5.out.trans (g6.mono HB5.out.size))
  clear g6 HI
  rw [show decide True = true from rfl]
  go_wp2_with fail
  go_ret
  exact ⟨rfl, HB6.out⟩
end Go.Proofs.YtlakgkoohdfiaaaDoor
