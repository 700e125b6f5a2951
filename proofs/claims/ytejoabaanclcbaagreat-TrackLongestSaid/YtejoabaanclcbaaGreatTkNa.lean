/- The walk of TrackNames: for every list the law returns true, and what lay in memory is as it was. -/
import Derived.Test.YtejoabaanclcbaaGreatTkGa
namespace Go.Proofs.YtejoabaanclcbaaGreat.Tk
open Go.RowKit

abbrev e7 : ByteArray := ⟨#[69, 67, 72, 79, 55]⟩
/-- The first n reports have another name. -/
def ren (n : Nat) (B R : List Rq) : Prop := R.length = B.length ∧ ∀ j, ∀ h : j < R.length, ∀ h' : j < B.length, R[j] = if j < n then { B[j] with nm := e7 } else B[j]
theorem ren_zero (B : List Rq) : ren 0 B B := ⟨rfl, fun j h h' => by simp⟩
theorem ren_set {n : Nat} {B R : List Rq} (h : ren n B R) (hn : n < R.length) : ren (n + 1) B (R.set n { R[n] with nm := e7 }) := by
  refine ⟨by rw [List.length_set]; exact h.1, fun j hj hj' => ?_⟩
  rw [List.getElem_set]
  have hl := h.1
  split
  · next e =>
    subst e
    rw [if_pos (by omega), h.2 n hn hj', if_neg (by omega)]
  · next e =>
    rw [h.2 j (by simpa using hj) hj']
    by_cases hjn : j < n
    · rw [if_pos hjn, if_pos (by omega)]
    · rw [if_neg hjn, if_neg (by omega)]
theorem ren_end {B R : List Rq} (h : ren B.length B R) : R = B.map (fun r => { r with nm := e7 }) := by
  refine List.ext_getElem (by rw [List.length_map]; exact h.1) fun j h1 h2 => ?_
  rw [List.getElem_map, h.2 j h1 (by simpa using h2), if_pos (by simpa using h2)]
theorem ren_ok {B : List Rq} {p : Int → Bool} (h : oks p B) : oks p (B.map (fun r => { r with nm := e7 })) := fun r hr hk => by
  obtain ⟨x, hx, rfl⟩ := List.mem_map.1 hr
  exact h x hx hk
/-- Both lists in memory, and apart. -/
structure Nw (w : World) (A B : List Rq) (ua ub : Value) (Y : World) : Prop where
  a : Lw w A ua Y
  b : Lw w B ub Y
  apart : ∀ i j, ua.ownBlock = some i → ub.ownBlock = some j → i ≠ j
theorem Nw.under {w Y Y' : World} {A B : List Rq} {ua ub : Value} (h : Nw w A B ua ub Y) (hb : Below Y.heap.size Y Y') : Nw w A B ua ub Y' := ⟨h.a.under hb, h.b.under hb, h.apart⟩
theorem Nw.step {w Y Y' : World} {A B : List Rq} {ua ub : Value} (h : Nw w A B ua ub Y) (hs : Src w w.heap.size Y') (hg : Y.grownBy Y' (some w.heap.size)) : Nw w A B ua ub Y' := ⟨h.a.step hs hg, h.b.step hs hg, h.apart⟩
theorem Nw.put {w Y : World} {A B : List Rq} {ua : Value} {g n cap : Nat} (h : Nw w A B ua (.slice (some ⟨g, 0, none⟩) n cap) Y) (hn : n = B.length) (i : Nat) (hi : i < B.length) :
    Nw w A (B.set i { B[i] with nm := e7 }) ua (.slice (some ⟨g, 0, none⟩) n cap) (Y.setCell ⟨g, i * 8 + 1, none⟩ (.string e7)) := by
  subst hn
  exact ⟨h.a.far _ _ (h.b.lt rfl).1 (fun k hk => h.apart k g hk rfl), (h.b.put i hi 1 (.string e7) { B[i] with nm := e7 } rfl (by omega)).1, h.apart⟩
theorem Lw.at2 {w Y : World} {R : List Rq} {g n cap : Nat} (h : Lw w R (.slice (some ⟨g, 0, none⟩) n cap) Y) (hn : n = R.length) (i : Nat) (hi : i < R.length) : At8 Y g (i * 8) R[i] := by
  subst hn
  exact h.at i hi
theorem Lw.some {w Y : World} {R : List Rq} {Ab : Option Addr} {n cap : Nat} (h : Lw w R (.slice Ab n cap) Y) (hp : 0 < R.length) : ∃ g, Ab = Option.some ⟨g, 0, none⟩ := by
  obtain ⟨base, h1, h2⟩ := h.own
  rcases h2.2 with ⟨e, h0⟩ | ⟨g, cap, cur, e, -⟩
  · omega
  · injection e with e
    exact ⟨g, e⟩
/-- What is drawn is as the laws want it. -/
theorem rf_pw {one : Bool} {R : List Rq} {m : Int} (h : RF one R m) : R.Pairwise (fun a b => ∀ j k, (fun x y : Sg => x.nm = y.nm → x.t ≠ y.t) ⟨a.nm, a.t, nod a.F a.A a.B a.C, j⟩ ⟨b.nm, b.t, nod b.F b.A b.B b.C, k⟩) :=
  h.1.imp fun hab _ _ _ e => by
    have e2 : _ = _ := e
    dsimp only at e2
    omega
theorem e7_pw {R : List Rq} {m : Int} {one : Bool} (h : RF one R m) : (R.map (fun r => { r with nm := e7 })).Pairwise (fun a b => ∀ j k, (fun x y : Sg => x.nm = y.nm → x.t ≠ y.t) ⟨a.nm, a.t, nod a.F a.A a.B a.C, j⟩ ⟨b.nm, b.t, nod b.F b.A b.B b.C, k⟩) :=
  List.pairwise_map.2 (h.1.imp fun hab _ _ _ e => by
    have e2 : _ = _ := e
    dsimp only at e2
    omega)
theorem rf_nm {R : List Rq} {m : Int} (h : RF true R m) : ∀ r ∈ R, r.nm = dl := fun r hr => ((h.2 r hr).2.2.2 rfl).2.1
theorem e7_nm {R : List Rq} : ∀ r ∈ R.map (fun r => { r with nm := e7 }), r.nm = e7 := fun r hr => by
  obtain ⟨x, hx, rfl⟩ := List.mem_map.1 hr
  rfl
theorem oks_app {p : Int → Bool} {A B : List Rq} (ha : oks p A) (hb : oks p B) : oks p (A ++ B) := fun r hr => (List.mem_append.1 hr).elim (ha r) (hb r)
theorem nodup_le {n : Nat} : ∀ {l : List Nat}, l.Pairwise (fun x y => x < y) → (∀ x ∈ l, x < n) → l.length ≤ n := fun {l} h hl => by
  rcases Nat.eq_zero_or_pos l.length with h0 | h0
  · omega
  · have h1 := pw_nth h (l.length - 1) (by omega)
    have h2 := hl _ (List.getElem_mem (show l.length - 1 < l.length by omega))
    omega
theorem susL_len {h : Int} {R : List Rq} {l : List Nat} (hs : SusL h (sgl sea 0 R) l) : l.length ≤ R.length ∧ ∀ x ∈ l, x < R.length := ⟨nodup_le (susL_pw hs) (susL_lt hs), susL_lt hs⟩
theorem dl_e7 : dl ≠ e7 := by decide
/-- The suspects of the one, and the first ones of the other. -/
def pq (n : Nat) (p q : List Nat) (j : Nat) : List Nat := p ++ (q.take j).map (fun x => n + x)
set_option maxRecDepth 100000 in
set_option maxHeartbeats 8000000 in
theorem trackNames_any (v : Value) (w : World) (hl : ListIn w v) :
    Calls Tryz.prog 7 #[v] w fun e w' => e = .returned (.bool true) ∧ Below w.heap.size w w' := by
  obtain ⟨j0, hj, hj0, hj1, hj2⟩ := info_parts infoRep
  go_enter Tryz.func7, Tryz.ntmps7
  go_wp2_with fail
  refine (new_any _ _ hl).mono ?_
  rintro e w1 ⟨rfl, s1, -⟩
  go_wp2_with fail
  refine (reports_any _ _ _ 5 true s1 (by omega)).mono ?_
  intro e w2 hr
  obtain ⟨A, ua, ma, ⟨hAF, hma⟩, hA5, rfl, la, -, -⟩ := Lw.start2 s1 hr
  have LA := Lib.hid la
  have FA := Lib.hid (And.intro hAF hma)
  clear la hr s1 hl hAF hma
  go_wp2_with fail
  refine (reports_any _ _ _ 5 true LA.out.src (by omega)).mono ?_
  intro e w3 hr
  obtain ⟨B, ub, mb, ⟨hBF, hmb⟩, hB5, rfl, lb, gb, nb⟩ := Lw.start2 LA.out.src hr
  have N3 := Lib.hid (show Nw w A B ua ub w3 from ⟨LA.out.step lb.src gb, lb, fun i j hi hj => by have := (LA.out.lt hi).2; have := nb j hj; omega⟩)
  have FB := Lib.hid (And.intro hBF hmb)
  clear lb hr hBF hmb LA gb nb
  obtain ⟨Ab, cap, rfl⟩ : ∃ Ab cap, ub = .slice Ab B.length cap := by
    obtain ⟨base, h1, h2⟩ := N3.out.b.own
    exact own_form h2
  obtain ⟨Aa, capa, rfl⟩ : ∃ Aa capa, ua = .slice Aa A.length capa := by
    obtain ⟨base, h1, h2⟩ := N3.out.a.own
    exact own_form h2
  go_upto_region 3 with fail
  go_wp2_with fail
  go_loopw [25] (fun t wr => ∃ (i : Nat) (R : List Rq), i ≤ B.length ∧ t = .int .i64 i ∧ ren i B R ∧ Nw w A R (.slice Aa A.length capa) (.slice Ab B.length cap) wr) (fun t _ => B.length - (intOf t).toNat)
  case atStart => exact ⟨0, B, by omega, rfl, ren_zero B, N3.out⟩
  case round =>
    clear N3
    obtain ⟨i, R, hi, rfl, hR, hN⟩ := hrel
    have HR := Lib.hid hR; have HN := Lib.hid hN
    clear hR hN
    by_cases hlt : i < B.length
    · have k0 : (i : Int) < (B.length : Int) := by omega
      have k1 : (0 : Int) ≤ (i : Int) := by omega
      have hlt2 : Hid (i < R.length) := Lib.hid (by rw [HR.out.1]; exact hlt)
      obtain ⟨g, rfl⟩ := HN.out.b.some (by have := hlt2.out; omega)
      obtain ⟨-, pN, -⟩ := HN.out.b.at2 HR.out.1.symm i hlt2.out
      have hz := HN.out.b.thaw (i * 8 + 1)
      have HP := Lib.hid (HN.out.put HR.out.1.symm i hlt2.out)
      have HS := Lib.hid (ren_set HR.out hlt2.out)
      clear HN HR
      go_wp2_with fail
      go_roundw
      case rel => exact ⟨i + 1, _, by omega, by go_num, HS.out, HP.out⟩
      case measure => simp [intOf]; omega
    · have k0 : ¬ (i : Int) < (B.length : Int) := by omega
      obtain rfl : i = B.length := by omega
      obtain rfl := ren_end HR.out
      have HN2 := Lib.hid HN.out
      clear HR HN
      have ba := (Below.refl wr.heap.size wr).alloc (Nat.le_refl _) (.cells #[.int .i64 0, .int .i64 4, .int .i64 24] 3)
      have hrow := Row.new wr #[.int .i64 0, .int .i64 4, .int .i64 24] 3
      have hne : wr.heap.size ≠ w.heap.size := by have := src_at HN2.out.a.src; omega
      have N4 := Lib.hid (HN2.out.under ba)
      obtain ⟨c0, c1, c2⟩ := row3 hrow
      have hltw := hrow.lt
      clear hrow ba HN2
      go_wp2_with fail
      refine (pick_any (fun x => 0 ≤ x ∧ x ≤ 24) _ _ _ _ _ _ N4.out.a.src (by omega) (by omega) hne hltw (fun i hi => by
        rcases (by omega : i = 0 ∨ i = 1 ∨ i = 2) with rfl | rfl | rfl
        · exact ⟨_, c0, by omega, by omega⟩
        · exact ⟨_, c1, by omega, by omega⟩
        · exact ⟨_, c2, by omega, by omega⟩)).mono ?_
      rintro e w5 ⟨k, ⟨kk1, kk2⟩, rfl, s5, g5⟩
      have N5 := Lib.hid (N4.out.step s5 g5)
      clear N4 s5 g5 c0 c1 c2 hltw hne
      go_wp2_with fail
      refine (suspectsP_any _ A k _ N5.out.a.rq (by omega) (fun r hr => by have := (FA.out.1.2 r hr).2.2.1; unfold maxLen; omega)).mono ?_
      rintro e w6 ⟨p, cp, vp, htp, rfl, hip, b6⟩
      obtain ⟨rfl, hsp⟩ := sus_ok htp (by omega) (rf_ok FA.out.1 (by have := FA.out.2; omega)) (sgl_pw A 0 (rf_pw FA.out.1))
      have HSP := Lib.hid hsp; have IP := Lib.hid hip
      have N6 := Lib.hid (N5.out.under b6)
      clear N5 b6 htp hsp hip
      go_wp2_with fail
      refine (suspectsP_any _ (B.map (fun r => { r with nm := e7 })) k _ N6.out.b.rq (by rw [List.length_map]; omega) (fun r hr => by rw [e7_nm r hr]; decide)).mono ?_
      rintro e w7 ⟨q, cq, vq, htq, rfl, hiq, b7⟩
      obtain ⟨rfl, hsq⟩ := sus_ok htq (by omega) (ren_ok (rf_ok FB.out.1 (by have := FB.out.2; omega))) (sgl_pw _ 0 (e7_pw FB.out.1))
      have HSQ := Lib.hid hsq; have IQ := Lib.hid hiq
      have N7 := Lib.hid (N6.out.under b7)
      have IP7 := Lib.hid (IP.out.under b7)
      clear N6 b7 htq hsq hiq IP
      obtain ⟨ap, cp2, rfl⟩ := il_form IP7.out
      obtain ⟨aq, cq2, rfl⟩ := il_form IQ.out
      have BA : Hid (Below w7.heap.size w7 (w7.alloc (.cells #[] 35))) := Lib.hid ((Below.refl _ _).alloc (Nat.le_refl _) _)
      have LIT : Hid ((w7.alloc (.cells #[] 35)).ownsRow w7.heap.size 35 8 (.slice (some ⟨w7.heap.size, 0, none⟩) 0 0) 0 []) := Lib.hid (World.ownsRow_lit w7 #[] 0 (Nat.le_refl _) (by decide) rfl)
      have SZ := Lib.hid (show w7.heap.size ≤ (w7.alloc (.cells #[] 35)).heap.size from BA.out.size)
      obtain ⟨ba, -, hoa⟩ := (N7.out.under BA.out).a.own
      have OA := Lib.hid hoa
      have HLEN : Hid ((B.map (fun r => { r with nm := e7 })).length = B.length) := Lib.hid (List.length_map _)
      clear hoa
      go_upto_region 11 with fail
      go_wp2_with (at_builtin; first | (refine wpList_append_any rfl (.tmp 49) (.tmp 50) 22 rfl w7.heap.size 35 j0 _ 8 88 Tryz.underlying22 hj hj0 hj1 hj2 rfl (by decide) (.slice (some ⟨w7.heap.size, 0, none⟩) 0 0) 0 [] rfl LIT.out A.length (rqc A) (.slice Aa A.length capa) ba rfl OA.out (rqc_one A) (by unfold maxLen; omega) (by omega) SZ.out ?_; intro v8 w8 hown8 hgr8; have B8 := Lib.hid (below_own BA.out BA.out.size LIT.out hgr8); have N8 := Lib.hid (N7.out.under B8.out); have O8 : Hid (w8.ownsRow w7.heap.size 35 8 v8 A.length (rqc A)) := Lib.hid (by have h := hown8; rw [Nat.zero_add, List.nil_append] at h; exact h); clear hown8 hgr8; obtain ⟨bb, -, hob⟩ := N8.out.b.own; have OB : Hid (w8.ownsRow bb 35 8 (.slice Ab B.length cap) B.length (rqc (B.map (fun r => { r with nm := e7 })))) := Lib.hid (by have h := hob; rw [HLEN.out] at h; exact h); clear hob) | go_loud (refine wpList_append_any rfl (.tmp 51) (.tmp 52) 22 rfl w7.heap.size 35 j0 _ 8 88 Tryz.underlying22 hj hj0 hj1 hj2 rfl (by decide) v8 A.length (rqc A) rfl O8.out B.length (rqc (B.map (fun r => { r with nm := e7 }))) (.slice Ab B.length cap) bb rfl OB.out (rqc_one _) (by unfold maxLen; omega) (by omega) B8.out.size ?_; intro v9 w9 hown9 hgr9; have B9 := Lib.hid (below_own B8.out B8.out.size O8.out hgr9); have N9 := Lib.hid (N7.out.under B9.out); have Q9 : Hid (RqIn w9 v9 (A ++ B.map (fun r => { r with nm := e7 }))) := Lib.hid (RqIn.own (base := w7.heap.size) (by rw [List.length_append, HLEN.out, show rqc (A ++ B.map (fun r => { r with nm := e7 })) = rqc A ++ rqc (B.map (fun r => { r with nm := e7 })) from by simp [rqc]]; exact hown9)); clear hown9 hgr9))
      refine (suspectsP_any _ (A ++ B.map (fun r => { r with nm := e7 })) k _ Q9.out (by rw [List.length_append, HLEN.out]; omega) (fun r hr => by rcases List.mem_append.1 hr with hr | hr; (have := (FA.out.1.2 r hr).2.2.1; unfold maxLen; omega); (rw [e7_nm r hr]; decide))).mono ?_
      rintro e w10 ⟨l, cl, vl, htl, rfl, hil, b10⟩
      obtain ⟨rfl, hsl⟩ := sus_ok htl (by omega) (oks_app (rf_ok FA.out.1 (by have := FA.out.2; omega)) (ren_ok (rf_ok FB.out.1 (by have := FB.out.2; omega)))) (sgl_pw _ 0 (List.pairwise_append.2 ⟨rf_pw FA.out.1, e7_pw FB.out.1, fun a ha b hb j k e => by
        have e2 : a.nm = b.nm := e
        rw [rf_nm FA.out.1 a ha, e7_nm b hb] at e2
        exact absurd e2 dl_e7⟩))
      have HLQ := Lib.hid (sus_two (rf_nm FA.out.1) e7_nm dl_e7 HSP.out HSQ.out hsl)
      have HPL := Lib.hid (susL_len HSP.out)
      have HQL := Lib.hid (by have h := susL_len HSQ.out; rw [HLEN.out] at h; exact h)
      have IL10 := Lib.hid hil
      have N10 := Lib.hid (N9.out.under b10)
      have IP10 := Lib.hid ((IP7.out.under B9.out).under b10)
      have IQ10 := Lib.hid ((IQ.out.under B9.out).under b10)
      clear b10 htl hsl hil Q9 N9 IP7 IQ HSP HSQ B9 B8 N8 O8 OB OA LIT SZ BA N7
      obtain ⟨al, cl, rfl⟩ := il_form IL10.out
      obtain ⟨m0, hm, hm0, hm1, hm2⟩ := info_parts infoInt0
      have BI : Hid (Below w10.heap.size w10 (w10.alloc (.cells #[] 3))) := Lib.hid ((Below.refl _ _).alloc (Nat.le_refl _) _)
      have LII : Hid ((w10.alloc (.cells #[] 3)).ownsRow w10.heap.size 3 1 (.slice (some ⟨w10.heap.size, 0, none⟩) 0 0) 0 []) := Lib.hid (World.ownsRow_lit w10 #[] 0 (Nat.le_refl _) (by decide) rfl)
      have IPI := Lib.hid (IP10.out.under BI.out)
      have hpl := HPL.out
      go_upto_region 14 with fail
      go_wp2_with (at_builtin; go_loud (refine wpList_append_any rfl (.tmp 68) (.tmp 69) 23 rfl w10.heap.size 3 m0 _ 1 8 Tryz.underlying23 hm hm0 hm1 hm2 rfl (by decide) (.slice (some ⟨w10.heap.size, 0, none⟩) 0 0) 0 [] rfl LII.out p.length (ic p) (.slice ap p.length cp2) 0 rfl IPI.out (ic_one p) (by unfold maxLen; omega) (by omega) BI.out.size ?_; intro v11 w11 hown11 hgr11; have B11 := Lib.hid (below_own BI.out BI.out.size LII.out hgr11); have O11 : Hid (IlB w10.heap.size w11 v11 p) := Lib.hid (by have h := hown11; rw [Nat.zero_add, List.nil_append] at h; exact h); clear hown11 hgr11))
      clear hpl
      go_loopw [14, 73] (fun u t wr => ∃ j : Nat, j ≤ q.length ∧ t = .int .i64 j ∧ IlB w10.heap.size wr u (pq A.length p q j) ∧ Below w10.heap.size w10 wr) (fun _ t _ => q.length - (intOf t).toNat)
      case atStart => exact ⟨0, Nat.zero_le _, rfl, by unfold pq; rw [List.take_zero, List.map_nil, List.append_nil]; exact O11.out, B11.out⟩
      case round =>
        clear B11 O11 LII BI IPI
        obtain ⟨j, hjq, rfl, ho, hb⟩ := hrel
        have HO := Lib.hid ho; have HB := Lib.hid hb
        clear ho hb
        by_cases hlt : j < q.length
        · have j1 : (j : Int) < (q.length : Int) := by omega
          have j2 : (0 : Int) ≤ (j : Int) := by omega
          obtain ⟨g, cg, e0, hc1, hc2, hcell⟩ := il_at (IQ10.out.under HB.out) hlt
          injection e0 with e0 e1 e2
          subst e0
          clear e1 e2 hc1 hc2
          have HQJ := Lib.hid (HQL.out.2 _ (List.getElem_mem hlt))
          have hql := HQL.out.1
          have hpl := HPL.out.1
          have HQT : Hid (pq A.length p q (j + 1) = pq A.length p q j ++ [A.length + q[j]]) := Lib.hid (by unfold pq; rw [List.take_succ_eq_append_getElem hlt, List.map_append, List.append_assoc]; rfl)
          have HLN : Hid ((pq A.length p q j).length = p.length + j) := Lib.hid (by unfold pq; rw [List.length_append, List.length_map, List.length_take]; omega)
          have hqj := HQJ.out
          have OP0 : Hid (wr.ownsRow w10.heap.size 3 1 «u14» (p.length + j) (ic (pq A.length p q j))) := Lib.hid (by have h := HO.out; unfold IlB at h; rw [HLN.out] at h; exact h)
          have HR : Hid (∀ (W : World) (v : Value), W.ownsRow w10.heap.size 3 1 v (p.length + j + 1) (ic (pq A.length p q j) ++ ic [A.length + q[j]]) → IlB w10.heap.size W v (pq A.length p q (j + 1))) := Lib.hid (fun W v h => by
            rw [HQT.out]
            unfold IlB
            rw [List.length_append, HLN.out, show ic ((pq A.length p q j) ++ [A.length + q[j]]) = ic (pq A.length p q j) ++ ic [A.length + q[j]] from by simp [ic]]
            exact h)
          clear HQT HLN HO
          generalize ic (pq A.length p q j) = cs0 at *
          generalize q[j] = x at *
          have OX : Hid ((wr.alloc (.cells #[.int .i64 ((A.length : Int) + (x : Int))] 3)).ownsRow 0 3 1 (.slice (some ⟨wr.heap.size, 0, none⟩) 1 1) 1 (ic [A.length + x])) := Lib.hid (il_one (B := 0) wr (A.length + x))
          have BX : Hid (Below wr.heap.size wr (wr.alloc (.cells #[.int .i64 ((A.length : Int) + (x : Int))] 3))) := Lib.hid ((Below.refl _ _).alloc (Nat.le_refl _) _)
          have OP := Lib.hid (own_under OP0.out BX.out)
          have BXX := Lib.hid (HB.out.trans (BX.out.mono HB.out.size))
          have hxl : (A.length : Int) + (x : Int) < 100 := by omega
          clear OP0 HB BX IQ10
          go_wp2_with (at_builtin; go_loud (refine wpList_append_any rfl (.tmp 77) (.tmp 82) 23 rfl w10.heap.size 3 m0 _ 1 8 Tryz.underlying23 hm hm0 hm1 hm2 rfl (by decide) «u14» (p.length + j) cs0 rfl OP.out 1 (ic [A.length + x]) (.slice (some ⟨wr.heap.size, 0, none⟩) 1 1) 0 rfl OX.out (ic_one _) (by unfold maxLen; omega) (by omega) BXX.out.size ?_; intro v12 w12 hown12 hgr12; have B12 := Lib.hid (below_own BXX.out BXX.out.size OP.out hgr12); have O12 := Lib.hid (HR.out w12 v12 hown12); clear hown12 hgr12))
          go_roundw
          case rel => exact ⟨j + 1, by omega, by go_num, O12.out, B12.out⟩
          case measure => simp [intOf]; omega
        · have j1 : ¬ (j : Int) < (q.length : Int) := by omega
          obtain rfl : j = q.length := by omega
          have IW : Hid (IlIn wr «u14» l) := Lib.hid (by rw [HLQ.out]; have h := HO.out.zero; unfold pq at h; rw [List.take_length] at h; exact h)
          have IL := Lib.hid (IL10.out.under HB.out)
          have hln : l.length ≤ 100000 := by rw [HLQ.out, List.length_append, List.length_map]; have := HPL.out.1; have := HQL.out.1; omega
          clear HO
          obtain ⟨a14, c14, e14⟩ := il_form IW.out
          subst e14
          go_wp2_with fail
          refine (ints_is _ _ _ _ IL.out IW.out hln).mono ?_
          rintro e wy ⟨rfl, by1⟩
          go_wp2_with fail
          refine (awake_any _).mono ?_
          rintro e wz ⟨rfl, bz⟩
          have HS := Lib.hid (((N10.out.under HB.out).under by1).under bz)
          go_wp2_with fail
          go_ret
          exact ⟨rfl, HS.out.a.src.below⟩
end Go.Proofs.YtejoabaanclcbaaGreat.Tk

