/- The contract of the program's normals. -/
import Derived.Test.YtlakgkoohdfiaaaDoorQas
import Derived.Maps.RangeWalk
namespace Go.Proofs.YtlakgkoohdfiaaaDoor
open Go.RowKit Go.Maps

theorem genH {P : Program} {ops : Array Oper} {Q : Exit → Act → World → Prop} {md : Region.Mode} {S : World → Prop} {fuel : Nat} {listed : Array Bool} {a : Act} {w : World} (R : World → Prop) (h : R w)
    (hK : ∀ X, R X → wpAnyH P md ops Q S fuel listed a X) : wpAnyH P md ops Q S fuel listed a w := hK w h
/-- APPEND TO AN OWNED ROW, NOTHING OR MORE, AS ONE STEP OF A DRAWN REGION. -/
theorem step_append_own {P : Program} {ops : Array Oper} {o : Oper} {a : Act} {w : World} {K : Act → World → Prop} {Q : Exit → Act → World → Prop} {E : Prop} (hgd : o.guard = none) (s x : Operand) (t : TypeId)
    (ho : o.op = .call { callee := .builtin .append, args := #[s, x], argTypes := #[t, t] })
    (base : Nat) (e : TypeId) (i : TypeInfo) (z : Value) (size bytes : Nat) (ht : P.underlying t = some (.slice e)) (hi : P.info? e = some i) (hz : i.zero = some z)
    (hsize : i.size = size) (hby : i.bytes = bytes) (hzs : z.cells.size = size) (hsz : 0 < size)
    (v : Value) (n : Nat) (xs : List Value) (hs : a.eval s = v) (hown : w.ownsRow base e size v n xs)
    (ad : Addr) (m c : Nat) (news : List Value) (hx : a.eval x = .slice (some ad) m c) (hl : news.length = m * size) (hnews : ∀ j u, news[j]? = some u → w.cell? (ad.add j) = some u) (h1 : ∀ u ∈ news, u.oneCell' = true)
    (h63 : n + m ≤ maxLen) (hbytes : (n + m) * bytes ≤ 140737488355328) (hbase : base ≤ w.heap.size)
    (h : ∀ v' w', w'.ownsRow base e size v' (n + m) (xs ++ news) → w.grownBy w' v.ownBlock → K (a.put o.dst v') w') :
    if Region.wanted o (yielded ops a.tmps) = true then Oper.wp P o a w K Q else E := by
  have hw : Region.wanted o (yielded ops a.tmps) = true := by simp [Region.wanted, hgd]
  rw [if_pos hw]
  obtain ⟨v', w', hr, h2, h3, -⟩ := run_append_own (P := P) w base t o.type e i z size bytes ht hi hz hsize hby hzs hsz v n xs hown ad m c news hl hnews h1 h63 hbytes hbase
  unfold Oper.wp execOp
  simp only [ho, resolve, invoke, builtin, Sem.run_bind, Sem.run_pure, Result.andThen_ok, List.map_toArray, List.map_cons, List.map_nil, hs, hx, hr]
  exact h v' w' h2 h3
theorem nodup_len : ∀ (K L : List Sl), K.Nodup → (∀ k ∈ K, k ∈ L) → K.length ≤ L.length
  | [], L, _, _ => Nat.zero_le _
  | k :: K, L, h, hs => by
    have hk := hs k (by simp)
    have h1 := nodup_len K (L.erase k) (List.nodup_cons.1 h).2 (fun x hx => (List.mem_erase_of_ne (by rintro rfl; exact (List.nodup_cons.1 h).1 hx)).2 (hs x (by simp [hx])))
    rw [List.length_erase_of_mem hk] at h1
    have := List.length_pos_of_mem hk
    rw [List.length_cons]
    omega
theorem ksl_le : ∀ (P : List (Sl × Int)) (a : List Sl), (P.foldl (fun a p => if p.1 ∈ a then a else a ++ [p.1]) a).length ≤ a.length + P.length
  | [], a => by simp
  | p :: P, a => by
    rw [List.foldl_cons]
    have := ksl_le P (if p.1 ∈ a then a else a ++ [p.1])
    split at this
    · rename_i hq; rw [if_pos hq, List.length_cons]; omega
    · rename_i hq; rw [if_neg hq, List.length_cons]; rw [List.length_append, List.length_singleton] at this; omega
theorem slV_inj {k k' : Sl} (h : slV k = slV k') : k = k' := by
  unfold slV at h
  injection h with h
  simp at h
  exact Prod.ext h.1 (Prod.ext h.2.1 h.2.2)
set_option maxRecDepth 100000 in
/-- An entry that comes out of the range is what stands at its slot. -/
theorem at_slot {D : DataW Value} {f : Sl → Option Value} {x : Sl} {c : Value} {kl : Lit} {y : DataW Value × List MemPlace} (hD : ∀ k, SlOk k → Maps.has D (nkS k) = (f k).isSome ∧ ∀ z, D.atKey (nkS k) (.held z) = .held ((f k).getD z))
    (hk : keyOf Tryd.prog 118 (slV x) = some kl) (hy : MsR c = some y) (hat : ∀ zd, D.atKey kl zd = y.1) : f x = some c ∧ kl = nkS x ∧ SlOk x := by
  obtain ⟨k, e, rfl, hok⟩ := nkS_inv hk
  obtain rfl := slV_inj e
  have h1 : y.1 = .held c := by
    have := Option.some.inj hy
    rw [← this]
  refine ⟨?_, rfl, hok⟩
  have h2 : ∀ z, (f x).getD z = c := fun z => by
    have h3 := hat (.held z)
    rw [(hD x hok).2 z, h1] at h3
    exact DataW.held.inj h3
  cases hf : f x with
  | some v => have := h2 (.bool true); rw [hf] at this; exact congrArg some this
  | none =>
    have e1 := h2 (.bool true)
    have e2 := h2 (.bool false)
    rw [hf] at e1 e2
    rw [← e1] at e2
    cases e2
/-- The slots that have come out. -/
structure Kd (f : Sl → Option Value) (left : Lit → Bool) (K : List Sl) : Prop where
  ok : ∀ k ∈ K, SlOk k
  nd : K.Nodup
  iff : ∀ k, SlOk k → (k ∈ K ↔ (f k).isSome = true ∧ left (nkS k) = false)
set_option maxRecDepth 100000 in
theorem Kd.nil {f : Sl → Option Value} {D : DataW Value} (hD : ∀ k, SlOk k → Maps.has D (nkS k) = (f k).isSome ∧ ∀ z, D.atKey (nkS k) (.held z) = .held ((f k).getD z)) : Kd f (Maps.has D) [] :=
  ⟨fun k h => (by cases h), List.nodup_nil, fun k hk => ⟨fun h => (by cases h), fun ⟨h1, h2⟩ => by rw [(hD k hk).1, h1] at h2; cases h2⟩⟩
set_option maxRecDepth 100000 in
theorem Kd.snoc {f : Sl → Option Value} {left : Lit → Bool} {K : List Sl} (h : Kd f left K) {x : Sl} {c : Value} (hx : SlOk x) (hf : f x = some c) (hl : left (nkS x) = true) : Kd f (fun z => left z && !z.sameKey (nkS x)) (K ++ [x]) := by
  have hn : x ∉ K := fun q => by have := ((h.iff x hx).1 q).2; rw [hl] at this; cases this
  have same : ∀ k, SlOk k → ((nkS k).sameKey (nkS x) = true ↔ k = x) := fun k hk => ⟨fun q => nkS_inj hk hx (WideAt.sameKey_eq q), fun e => by subst e; exact WideAt.sameKey_self (nkS_key hk)⟩
  refine ⟨fun k hk => ?_, ?_, fun k hk => ?_⟩
  · rcases List.mem_append.1 hk with q | q
    · exact h.ok k q
    · rw [List.mem_singleton] at q; subst q; exact hx
  · rw [List.nodup_append]
    exact ⟨h.nd, by simp, fun a ha b hb => by rw [List.mem_singleton] at hb; subst hb; exact fun e => hn (e ▸ ha)⟩
  · rw [List.mem_append, List.mem_singleton, h.iff k hk]
    by_cases e : k = x
    · subst e
      rw [(same k hk).2 rfl]
      simp [hf]
    · have h0 : (nkS k).sameKey (nkS x) = false := by
        cases q : (nkS k).sameKey (nkS x) with
        | false => rfl
        | true => exact absurd ((same k hk).1 q) e
      rw [h0]
      simp [e]
/-- What is known in the loop of normals. -/
structure Nm (W : World) (R : List Rp) (b n : Nat) (D : DataW Value) (left : Lit → Bool) (cnt : Nat) (K : List Sl) (o : Value) (w : World) : Prop where
  below : Below W.heap.size W w
  rng : w.ranges Tryd.prog 118 MsR b W.heap.size n D left cnt
  own : w.ownsRow (W.heap.size + 1) 50 5 o K.length (nrc (K.map (nrK R)))
  it : W.heap.size + 1 ≤ w.heap.size
theorem Nm.under {W w w' : World} {R : List Rp} {b n cnt : Nat} {D : DataW Value} {left : Lit → Bool} {K : List Sl} {o : Value} (h : Nm W R b n D left cnt K o w) (hb : Below w.heap.size w w') : Nm W R b n D left cnt K o w' :=
  ⟨h.below.trans (hb.mono h.below.size), h.rng.kept (grown_below (r := none) hb) (by simp) (by simp), El.own_under h.own hb, Nat.le_trans h.it hb.size⟩
theorem Nm.app {W w w9 : World} {R : List Rp} {b n cnt : Nat} {D : DataW Value} {left : Lit → Bool} {K : List Sl} {o v' : Value} {x : Sl} (h : Nm W R b n D left cnt K o w) (hbW : b < W.heap.size) (hg : w.grownBy w9 o.ownBlock)
    (ho : w9.ownsRow (W.heap.size + 1) 50 5 v' (K.length + 1) (nrc (K.map (nrK R)) ++ encN (nrK R x))) : Nm W R b n D left cnt (K ++ [x]) v' w9 := by
  have hB : Below W.heap.size W w9 := h.below.grown hg h.below.size (fun i e => by have := row_base h.own e; omega)
  refine ⟨hB, h.rng.kept hg (fun e => by have := row_base h.own e.symm; omega) (fun e => by have := row_base h.own e.symm; omega), ?_, Nat.le_trans h.it hg.size⟩
  rw [List.map_append, List.length_append]
  have e : nrc (K.map (nrK R) ++ List.map (nrK R) [x]) = nrc (K.map (nrK R)) ++ encN (nrK R x) := by rw [show List.map (nrK R) [x] = [nrK R x] from rfl, nrc_app]
  rw [e]
  exact ho
set_option maxRecDepth 100000 in
set_option maxHeartbeats 8000000 in
theorem normals_any (R : List Rp) (b : Nat) (f : Sl → Option Value) (w : World) (h0 : errC R = 0) (hP : (prs R).length ≤ 4000) (hM : Lp w b (prs R) f) :
    Calls Tryd.prog 68 #[.map (some b)] w fun e w' => ∃ v, e = .returned v ∧ Below w.heap.size w w' ∧ w'.ownsRow w.heap.size 50 5 v (outC R 2640).length (nrc (outC R 2640)) := by
  have HV := Lib.hid (show ∀ r ∈ R, El.Elt.vld r.L = 0 from fun r hr => (erC_parts (errC_all h0 r hr)).2.2)
  have HF1 : Hid (∀ k, (f k).isSome = true ↔ valsC R k.1 k.2.1 k.2.2 ≠ []) := Lib.hid (fun k => (hM.has k).trans ((ksl_mem _ _).symm.trans (ksl_vals HV.out k)))
  have HF2 : Hid (∀ k v, f k = some v → v = tlV (tOf (prs R) k)) := Lib.hid (fun k v e => by have := hM.val k; rw [e] at this; exact this)
  have HF3 : Hid (∀ k, (f k).isSome = true → k ∈ ksl (prs R)) := Lib.hid (fun k h => (ksl_mem _ _).2 ((hM.has k).1 h))
  have hKl : (ksl (prs R)).length ≤ 4000 := by have := ksl_le (prs R) []; unfold ksl; rw [List.length_nil] at this; omega
  have hbl := hM.map.lt
  obtain ⟨D, ⟨hown, -⟩, hD⟩ := hM.map
  have HD := Lib.hid hD
  have H00 := Lib.hid h0
  have HPb := Lib.hid (prs_bd HV.out)
  obtain ⟨i0, hi, hz0, hz1, hz2⟩ := info_parts infoNormal
  obtain ⟨n, hn⟩ : ∃ n, (prs R).length = n := ⟨_, rfl⟩
  rw [hn] at hown
  clear hD hM h0
  have HOut : Hid (∀ (e : Ending) (w' : World), (∃ v K, e = .returned v ∧ Below w.heap.size w w' ∧ w'.ownsRow w.heap.size 50 5 v (K : List Sl).length (nrc (K.map (nrK R))) ∧ K.map (nrK R) = outC R 2640) → ∃ v, e = .returned v ∧ Below w.heap.size w w' ∧ w'.ownsRow w.heap.size 50 5 v (outC R 2640).length (nrc (outC R 2640))) := Lib.hid (fun e w' ⟨v, K, h1, h2, h3, h4⟩ => ⟨v, h1, h2, by rw [← h4, List.length_map]; exact h3⟩)
  refine Calls.mono ?_ (fun e w' h => HOut.out e w' h)
  clear HOut
  go_enter Tryd.func68, Tryd.ntmps68
  go_wp2_with (at_range; refine wpList_range_own _ rfl _ 116 rfl 118 120 lawSl Tryd.underlying116 MsR b n D rfl hown ?_; intro w1 hrg hgr hsz)
  go_frame
  have HN0 : Hid (Nm w R b n D (Maps.has D) (Maps.size D) [] (.slice none 0 0) w1) := Lib.hid ⟨(Below.refl _ w).grown hgr (Nat.le_refl _) (by simp), hrg, ⟨rfl, .inl ⟨rfl, rfl⟩⟩, by omega⟩
  clear hrg hgr hsz hown
  go_loopw [3] (fun t wr => ∃ (left : Lit → Bool) (cnt : Nat) (K : List Sl), Hid (Nm w R b n D left cnt K t wr) ∧ Hid (Kd f left K)) (fun _ wr => wr.rangeLeft b w.heap.size)
  case atStart => exact ⟨_, _, [], HN0, Lib.hid (Kd.nil HD.out)⟩
  case round =>
    obtain ⟨left, cnt, K, HN, HK⟩ := hrel
    clear HN0
    have hrange := HN.out.rng
    go_wp2_with (at_next; refine wpList_next_ranges _ rfl _ rfl 118 lawSl MsR slV (fun v : Value => v) (fun key kl h => by obtain ⟨k, e, -⟩ := nkS_inv h; exact ⟨k, e⟩) (fun v y _ => ⟨v, rfl⟩) b w.heap.size n D left cnt rfl hrange ?_ ?_)
    · intro _ hl0
      have HKK : Hid (∀ k, k ∈ K ↔ valsC R k.1 k.2.1 k.2.2 ≠ []) := Lib.hid (fun k => by
        rw [← HF1.out k]
        constructor
        · intro q; exact ((HK.out.iff k (HK.out.ok k q)).1 q).1
        · intro q
          have hs := slot_ok H00.out ((HF1.out k).1 q)
          have hok : SlOk k := by
            obtain ⟨h1, h2, h3⟩ := hs
            unfold El.Elt.Ex at h1
            exact ⟨⟨by omega, by omega⟩, ⟨by omega, by omega⟩, by omega, by omega⟩
          exact (HK.out.iff k hok).2 ⟨q, hl0 _⟩)
      clear hl0 hrange
      have HLn := Lib.hid (nodup_len K (ksl (prs R)) HK.out.nd (fun k hk => HF3.out k ((HK.out.iff k (HK.out.ok k hk)).1 hk).1))
      obtain ⟨Ao, co, hvo⟩ := row_form HN.out.own
      have hst := Lib.hid (sortN_any R (w.heap.size + 1) _ K wr (by have := HLn.out; omega) HN.out.own)
      subst hvo
      go_wp2_with fail
      refine hst.out.mono ?_
      rintro e w2 ⟨rfl, hg, K', hp, hpw, ho⟩
      have HB := Lib.hid (HN.out.below.grown hg HN.out.below.size (fun i e => by have := row_base HN.out.own e; omega))
      have HE := Lib.hid (out_sorted H00.out (hp.nodup_iff.2 HK.out.nd) (fun k => (hp.mem_iff).trans (HKK.out k)) hpw)
      have HO := Lib.hid (own_less ho (Nat.le_succ w.heap.size))
      clear hg hp hpw ho
      go_wp2_with fail
      go_ret
      exact ⟨_, K', rfl, HB.out, HO.out, HE.out⟩
    · intro x1 x2 x3 c kl y1 y2 w2 cnt2 hkey hlx hy hat hrg1 hlt hg1 hs1 hen
      obtain ⟨hfx, rfl, hok⟩ := at_slot HD.out hkey hy hat
      have HK2 := Lib.hid (HK.out.snoc hok hfx hlx)
      obtain rfl := HF2.out _ _ hfx
      have hnr := tl_nr HV.out ((HF1.out _).1 (by rw [hfx]; rfl))
      have hok2 := tOf_ok (prs R) (x1, x2, x3) HPb.out
      have HLn := Lib.hid (nodup_len K (ksl (prs R)) HK.out.nd (fun k hk => HF3.out k ((HK.out.iff k (HK.out.ok k hk)).1 hk).1))
      clear hkey hlx hy hat hfx
      obtain ⟨Ao, co, hvo⟩ := row_form HN.out.own
      have HN2 := Lib.hid (show Nm w R b n D (fun z => left z && !z.sameKey (nkS (x1, x2, x3))) cnt2 K _ w2 from ⟨HN.out.below.grown hg1 HN.out.below.size (fun i e => by injection e with e; omega), hrg1, own_heap HN.out.own (fun i hi => hg1.block i (row_size HN.out.own hi) (fun e => by injection e with e; have := row_base HN.out.own hi; omega)), Nat.le_trans HN.out.it hg1.size⟩)
      have HRO := Lib.hid hrange
      have HLT := Lib.hid hlt
      subst hvo
      clear HN HK hrg1 hg1 hs1 hrange hlt
      generalize tOf (prs R) (x1, x2, x3) = tl at *
      obtain ⟨tn, ts, tlo, thi⟩ := tl
      obtain ⟨e1, e2, e3⟩ := hnr
      obtain ⟨⟨k1, k2⟩, ⟨k3, k4⟩, ⟨k5, k6⟩, k7, k8⟩ := hok2
      dsimp only at e1 e2 e3 k1 k2 k3 k4 k5 k6 k7 k8
      obtain ⟨a, ha⟩ : ∃ a, ts / tn = a := ⟨_, rfl⟩
      obtain ⟨sp, hsp⟩ : ∃ sp, max (thi - a) (a - tlo) = sp := ⟨_, rfl⟩
      have HNX : Hid (nrK R (x1, x2, x3) = (x1, x2, x3, a, sp)) := Lib.hid (by
        have f1 : (nrK R (x1, x2, x3)).2.2.2.1 = a := by rw [← e1]; exact ha
        have f2 : (nrK R (x1, x2, x3)).2.2.2.2 = sp := by rw [← e2, f1]; exact hsp
        exact Prod.ext rfl (Prod.ext rfl (Prod.ext rfl (Prod.ext f1 f2))))
      have HMe : Hid (∀ W : World, Calls Tryd.prog 100 #[.agg #[.int .i64 tn, .int .i64 ts, .int .i64 tlo, .int .i64 thi]] W fun e w' => e = .returned (.int .i64 a) ∧ Below W.heap.size W w') := Lib.hid (fun W => by rw [← ha]; exact mean_any tn ts tlo thi W e3 (by omega) (by omega) (by omega))
      have HSp : Hid (∀ W : World, Calls Tryd.prog 101 #[.agg #[.int .i64 tn, .int .i64 ts, .int .i64 tlo, .int .i64 thi]] W fun e w' => e = .returned (.int .i64 sp) ∧ Below W.heap.size W w') := Lib.hid (fun W => by rw [← hsp, ← ha]; exact spread_any tn ts tlo thi W e3 (by omega) (by omega) (by omega) k5 k6 k7 k8)
      clear e1 e2 e3 k1 k2 k3 k4 k5 k6 k7 k8 ha hsp
      unfold tlV slV at hen
      dsimp only at hen
      have b3 := ((Below.refl w2.heap.size w2).alloc (Nat.le_refl _) (.cells #[.int .i64 x1, .int .i64 x2, .int .i64 x3] 118)).alloc (by simp) (.cells #[.int .i64 tn, .int .i64 ts, .int .i64 tlo, .int .i64 thi] 120)
      have H3 : Hid (Nm w R b n D (fun z => left z && !z.sameKey (nkS (x1, x2, x3))) cnt2 K (.slice Ao K.length co) ((w2.alloc (.cells #[.int .i64 x1, .int .i64 x2, .int .i64 x3] 118)).alloc (.cells #[.int .i64 tn, .int .i64 ts, .int .i64 tlo, .int .i64 thi] 120)) ∧ Row ((w2.alloc (.cells #[.int .i64 x1, .int .i64 x2, .int .i64 x3] 118)).alloc (.cells #[.int .i64 tn, .int .i64 ts, .int .i64 tlo, .int .i64 thi] 120)) w2.heap.size 118 #[.int .i64 x1, .int .i64 x2, .int .i64 x3] ∧ Row ((w2.alloc (.cells #[.int .i64 x1, .int .i64 x2, .int .i64 x3] 118)).alloc (.cells #[.int .i64 tn, .int .i64 ts, .int .i64 tlo, .int .i64 thi] 120)) (w2.heap.size + 1) 120 #[.int .i64 tn, .int .i64 ts, .int .i64 tlo, .int .i64 thi]) := Lib.hid ⟨HN2.out.under b3, (Row.new _ _ _).alloc _, Row.newAt (by simp)⟩
      clear b3 HN2
      have HNS : Hid (Row ((w2.alloc (.cells #[.int .i64 x1, .int .i64 x2, .int .i64 x3] 118)).alloc (.cells #[.int .i64 tn, .int .i64 ts, .int .i64 tlo, .int .i64 thi] 120)) w2.heap.size 118 #[.int .i64 x1, .int .i64 x2, .int .i64 x3]) := Lib.hid H3.out.2.1
      clear HNS
      go_upto_region 5 with fail
      refine forget (fun Y => Hid (Nm w R b n D (fun z => left z && !z.sameKey (nkS (x1, x2, x3))) cnt2 K (.slice Ao K.length co) Y ∧ Row Y w2.heap.size 118 #[.int .i64 x1, .int .i64 x2, .int .i64 x3] ∧ Row Y (w2.heap.size + 1) 120 #[.int .i64 tn, .int .i64 ts, .int .i64 tlo, .int .i64 thi])) H3 ?_
      clear H3 hen
      obtain ⟨gt, hgt⟩ : ∃ g, w2.heap.size + 1 = g := ⟨_, rfl⟩
      rw [hgt]
      clear hgt
      generalize w2.heap.size = gs at *
      rintro Y H4
      have HS := Lib.hid (show ∀ Z, Row Z gs 118 #[.int .i64 x1, .int .i64 x2, .int .i64 x3] ∧ Row Z gt 120 #[.int .i64 tn, .int .i64 ts, .int .i64 tlo, .int .i64 thi] → (Z.cell? ⟨gs, 0, none⟩ = some (.int .i64 x1) ∧ Z.cell? ⟨gs, 1, none⟩ = some (.int .i64 x2) ∧ Z.cell? ⟨gs, 2, none⟩ = some (.int .i64 x3)) ∧ Z.cell? ⟨gt, 0, none⟩ = some (.int .i64 tn) ∧ Z.cell? ⟨gt, 1, none⟩ = some (.int .i64 ts) ∧ Z.cell? ⟨gt, 2, none⟩ = some (.int .i64 tlo) ∧ Z.cell? ⟨gt, 3, none⟩ = some (.int .i64 thi) from fun Z hz => ⟨row3 hz.1, row4 hz.2⟩)
      have HDr := Lib.hid (show ∀ W : World, Below W.heap.size W W.drew from fun _ => ⟨rfl, rfl, rfl, Nat.le_refl _, fun _ _ => rfl⟩)
      refine wp_region_held_drew (S := fun Z : World => (Z.cell? ⟨gs, 0, none⟩ = some (.int .i64 x1) ∧ Z.cell? ⟨gs, 1, none⟩ = some (.int .i64 x2) ∧ Z.cell? ⟨gs, 2, none⟩ = some (.int .i64 x3)) ∧ Z.cell? ⟨gt, 0, none⟩ = some (.int .i64 tn) ∧ Z.cell? ⟨gt, 1, none⟩ = some (.int .i64 ts) ∧ Z.cell? ⟨gt, 2, none⟩ = some (.int .i64 tlo) ∧ Z.cell? ⟨gt, 3, none⟩ = some (.int .i64 thi)) (by kernel_rfl) (HS.out _ ⟨H4.out.2.1.under (HDr.out _), H4.out.2.2.under (HDr.out _)⟩) (fun hHeld => ?_)
      have H5 := Lib.hid (And.intro (H4.out.1.under (HDr.out Y)) (And.intro (H4.out.2.1.under (HDr.out Y)) (H4.out.2.2.under (HDr.out Y))))
      clear H4
      generalize Y.drew = X at *
      refine tk 0 (oi := ⟨some 13, _, _, _, _, none⟩) rfl ?_
      try go_frame
      refine tk 1 (oi := ⟨some 14, _, _, _, _, none⟩) rfl ?_
      try go_frame
      refine tk 2 (oi := ⟨some 15, _, _, _, _, none⟩) rfl ?_
      try go_frame
      refine tk 3 (oi := ⟨some 16, _, _, _, _, none⟩) rfl ?_
      try go_frame
      refine tk 4 (oi := ⟨some 17, _, _, _, _, none⟩) rfl ?_
      try go_frame
      refine tk 5 (oi := ⟨some 18, _, _, _, _, none⟩) rfl ?_
      try go_frame
      refine tk 6 (oi := ⟨some 19, _, _, _, _, none⟩) rfl ?_
      try go_frame
      refine tk 7 (oi := ⟨some 20, _, _, _, _, none⟩) rfl ?_
      try go_frame
      refine tk 9 (oi := ⟨some 22, _, _, _, _, none⟩) rfl ?_
      try go_frame
      refine wpAnyH_ready (rs := [8]) (by kernel_rfl) (by simp) ?_
      refine AllReadyH.cons (o := ⟨some 21, _, _, _, _, none⟩) rfl (fun KK hKK => ?_) AllReadyH.nil
      go_simp
      refine (HMe.out _).mono ?_
      rintro e X2 ⟨rfl, g2⟩
      go_wp2_with fail
      have H6 := Lib.hid (And.intro (H5.out.1.under g2) (And.intro (H5.out.2.1.under g2) (H5.out.2.2.under g2)))
      clear g2 H5 hHeld
      refine hKK.out _ _ (HS.out _ H6.out.2) (fun hHeld => ?_)
      clear hKK KK
      try simp only [Act.put, List.setIfInBounds_toArray, List.set_cons_zero, List.set_cons_succ]
      refine wpAnyH_ready (rs := [10]) (by kernel_rfl) (by simp) ?_
      refine AllReadyH.cons (o := ⟨some 23, _, _, _, _, none⟩) rfl (fun KK hKK => ?_) AllReadyH.nil
      go_simp
      refine (HSp.out _).mono ?_
      rintro e X3 ⟨rfl, g2⟩
      go_wp2_with fail
      have H7 := Lib.hid (And.intro (H6.out.1.under g2) (And.intro (H6.out.2.1.under g2) (H6.out.2.2.under g2)))
      clear g2 H6 hHeld
      refine hKK.out _ _ (HS.out _ H7.out.2) (fun hHeld => ?_)
      clear hKK KK
      try simp only [Act.put, List.setIfInBounds_toArray, List.set_cons_zero, List.set_cons_succ]
      refine tk 11 (oi := ⟨some 24, _, _, _, _, none⟩) rfl ?_
      try go_frame
      refine wpAnyH_ready (rs := [12]) (by kernel_rfl) (by simp) ?_
      refine AllReadyH.cons (o := ⟨some 25, _, _, _, _, none⟩) rfl (fun KK hKK => ?_) AllReadyH.nil
      go_simp
      have H8 : Hid ((Nm w R b n D (fun z => left z && !z.sameKey (nkS (x1, x2, x3))) cnt2 K (.slice Ao K.length co) (X3.alloc (.cells #[.int .i64 x1, .int .i64 x2, .int .i64 x3, .int .i64 a, .int .i64 sp] 50)) ∧ Row (X3.alloc (.cells #[.int .i64 x1, .int .i64 x2, .int .i64 x3, .int .i64 a, .int .i64 sp] 50)) gs 118 #[.int .i64 x1, .int .i64 x2, .int .i64 x3] ∧ Row (X3.alloc (.cells #[.int .i64 x1, .int .i64 x2, .int .i64 x3, .int .i64 a, .int .i64 sp] 50)) gt 120 #[.int .i64 tn, .int .i64 ts, .int .i64 tlo, .int .i64 thi]) ∧ ∀ (j : Nat) (z : Value), (encN (x1, x2, x3, a, sp))[j]? = some z → (X3.alloc (.cells #[.int .i64 x1, .int .i64 x2, .int .i64 x3, .int .i64 a, .int .i64 sp] 50)).cell? ((⟨X3.heap.size, 0, none⟩ : Addr).add j) = some z) := Lib.hid ⟨⟨H7.out.1.under ((Below.refl _ _).alloc (Nat.le_refl _) _), H7.out.2.1.alloc _, H7.out.2.2.alloc _⟩, five_at X3 (x1, x2, x3, a, sp)⟩
      clear H7 hHeld
      refine hKK.out _ _ (HS.out _ H8.out.1.2) (fun hHeld => ?_)
      clear hKK KK
      try simp only [Act.put, List.setIfInBounds_toArray, List.set_cons_zero, List.set_cons_succ]
      generalize X3.heap.size = g6 at *
      generalize X3.alloc (.cells #[.int .i64 x1, .int .i64 x2, .int .i64 x3, .int .i64 a, .int .i64 sp] 50) = X4 at *
      refine wpAnyH_ready (rs := [13]) (by kernel_rfl) (by simp) ?_
      refine AllReadyH.cons (o := ⟨some 26, _, _, _, _, none⟩) rfl (fun KK hKK => ?_) AllReadyH.nil
      have hKL : K.length ≤ 4000 := by have := HLn.out; omega
      refine step_append_own rfl (.tmp 13) (.tmp 25) 22 rfl (w.heap.size + 1) 50 i0 (nV (0, 0, 0, 0, 0)) 5 40 Tryd.underlying22 hi hz0 hz1 hz2 rfl (by decide) (.slice Ao K.length co) K.length (nrc (K.map (nrK R))) rfl H8.out.1.1.own ⟨g6, 0, none⟩ 1 1 (encN (x1, x2, x3, a, sp)) rfl rfl H8.out.2 (fun u hu => by simp only [encN, List.mem_cons, List.not_mem_nil, or_false] at hu; rcases hu with rfl | rfl | rfl | rfl | rfl <;> rfl) (by unfold maxLen; omega) (by omega) H8.out.1.1.it ?_
      intro v' X5 ho' hg
      have H9 : Hid ((Nm w R b n D (fun z => left z && !z.sameKey (nkS (x1, x2, x3))) cnt2 (K ++ [(x1, x2, x3)]) v' X5) ∧ Row X5 gs 118 #[.int .i64 x1, .int .i64 x2, .int .i64 x3] ∧ Row X5 gt 120 #[.int .i64 tn, .int .i64 ts, .int .i64 tlo, .int .i64 thi]) := Lib.hid ⟨H8.out.1.1.app hbl hg (by rw [HNX.out]; exact ho'), H8.out.1.2.1.grown hg (fun e => row_not H8.out.1.1.own H8.out.1.2.1 (by decide) e.symm), H8.out.1.2.2.grown hg (fun e => row_not H8.out.1.1.own H8.out.1.2.2 (by decide) e.symm)⟩
      clear ho' hg H8 hHeld
      refine hKK.out _ _ (HS.out _ H9.out.2) (fun hHeld => ?_)
      clear hKK KK
      try simp only [Act.put, List.setIfInBounds_toArray, List.set_cons_zero, List.set_cons_succ]
      refine tk 14 (oi := ⟨some 3, _, _, _, _, none⟩) rfl ?_
      try go_frame
      refine wpAnyH_done (by kernel_rfl) ?_ _
      clear hHeld
      go_wp2_with fail
      exact ⟨⟨_, _, _, Lib.hid H9.out.1, HK2⟩, by rw [H9.out.1.rng.left_eq, HRO.out.left_eq]; exact HLT.out⟩
end Go.Proofs.YtlakgkoohdfiaaaDoor
