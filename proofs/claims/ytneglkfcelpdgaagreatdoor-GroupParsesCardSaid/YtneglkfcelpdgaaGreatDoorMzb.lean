/- The day, hour and minute of a minute; which minute they name near another one; contract of the program's Readable.; The words of a report's text; contracts of the program's twoDigits and stamp.Format.; Contracts of the program's kindOf, number and resolve at the words of valid reports.; Contract of the program's resolve at the word of a day, an hour and a minute. -/
import Derived.Test.YtneglkfcelpdgaaGreatDoorMt
import Derived.Test.YtneglkfcelpdgaaGreatDoorMy
import Derived.Test.YtneglkfcelpdgaaGreatDoorMz
import Derived.Test.YtneglkfcelpdgaaGreatDoorMf
import Derived.Test.YtneglkfcelpdgaaGreatDoorMza
import Derived.Laws.BytesArg
namespace Go.Proofs.YtneglkfcelpdgaaGreatDoor
open Go.RowKit
open Ck (Nearest)

/-- The word of a kind. -/
def kws : List (List UInt8) := [[76, 65, 78, 68], [83, 72, 73, 80], [66, 85, 79, 89]]
def kw (k : Int) : List UInt8 := kws.getD (k - 1).toNat []
/-- What package variables hold. -/
structure Env (w : World) : Prop where
  ck : Ck.Tab w
  el : El.Env w
  kd : ∀ i : Nat, i < 3 → w.cell? ⟨0, i, none⟩ = some (.string (S (kws.getD i [])))
  ml : ∃ m, w.cell? ⟨3, 0, none⟩ = some (.int .i64 m)
theorem Env.pl {w : World} (h : Env w) : Pl.Env w := h.el.pow
theorem Env.under {w w' : World} (h : Env w) (hb : Below w.heap.size w w') : Env w' := by
  obtain ⟨t, p, kd, m, hm⟩ := h
  exact ⟨t.under hb, p.under hb, fun i hi => (hb.cell (p := ⟨0, i, none⟩) (World.block_lt_of_cell? w _ (kd i hi))).trans (kd i hi), m, (hb.cell (p := ⟨3, 0, none⟩) (World.block_lt_of_cell? w _ hm)).trans hm⟩
theorem Env.alloc {w : World} (h : Env w) (o : Obj) : Env (w.alloc o) := h.under ((Below.refl _ _).alloc (Nat.le_refl _) o)
theorem Env.drew {w : World} (h : Env w) : Env w.drew := ⟨h.ck, h.el.drew, h.kd, h.ml⟩
theorem Env.drewN {w : World} (h : Env w) (n : Nat) : Env (w.drewN n) := ⟨h.ck, h.el.drewN n, h.kd, h.ml⟩
theorem Env.tab {w : World} (h : Env w) : El.Tab w := h.el.tab

/-- A day of the month, an hour, a minute and a minute near which they are looked for. -/
def tmOk (d h i near : Int) : Prop := (1 ≤ d ∧ d ≤ 31) ∧ Ck.Cal.tod h i = true ∧ Ck.Cal.rng near = true
open Classical in
/-- The minute that they name. -/
noncomputable def rsv (d h i near : Int) : Option Int := if x : tmOk d h i near ∧ ∃ a, Nearest d h i near a then some (Classical.choose x.2) else none
theorem rsv_yes {d h i near a : Int} (ho : tmOk d h i near) (ha : Nearest d h i near a) : rsv d h i near = some a := by
  unfold rsv
  have x : tmOk d h i near ∧ ∃ a, Nearest d h i near a := ⟨ho, a, ha⟩
  rw [dif_pos x, Ck.Nearest.unique (Classical.choose_spec x.2) ha]
theorem rsv_no {d h i near : Int} (ho : ¬ tmOk d h i near) : rsv d h i near = none := by unfold rsv; rw [dif_neg fun x => ho x.1]
theorem rsv_some {d h i near a : Int} (h0 : rsv d h i near = some a) : tmOk d h i near ∧ Nearest d h i near a := by
  unfold rsv at h0
  split at h0
  · rename_i x
    obtain rfl := Option.some.inj h0
    exact ⟨x.1, Classical.choose_spec x.2⟩
  · cases h0
/-- What both sides' Resolve answers. -/
def RsvR (d h i near : Int) (w : World) (e : Ending) (w' : World) : Prop :=
  ((tmOk d h i near ∧ ∃ a, rsv d h i near = some a ∧ e = .returned (.tuple #[.int .i64 a, .int .i64 0])) ∨ (¬ tmOk d h i near ∧ rsv d h i near = none ∧ e = .returned (.tuple #[.int .i64 0, .int .i64 1]))) ∧ Below w.heap.size w w'
theorem resolve_is (d h i near : Int) (w : World) (hT : Ck.Tab w) :
    Calls Tryz.prog 51 #[.int .i64 d, .int .i64 h, .int .i64 i, .int .i64 near] w (RsvR d h i near w) := by
  by_cases ho : tmOk d h i near
  · exact (Ck.resolve_yes d h i near w hT ho.1.1 ho.1.2 ho.2.1 ho.2.2).mono fun e w' ⟨a, ha, he, hb⟩ => ⟨.inl ⟨ho, a, rsv_yes ho ha, he⟩, hb⟩
  · exact (Ck.resolve_no d h i near w ho).mono fun e w' ⟨he, hb⟩ => ⟨.inr ⟨ho, rsv_no ho, he⟩, hb ▸ Below.refl _ _⟩
theorem refResolve_is (d h i near : Int) (w : World) :
    Calls Tryz.prog 95 #[.int .i64 d, .int .i64 h, .int .i64 i, .int .i64 near] w (RsvR d h i near w) := by
  by_cases ho : tmOk d h i near
  · exact (Ck.refResolve_yes d h i near w ho.1.1 ho.1.2 ho.2.1 ho.2.2).mono fun e w' ⟨a, ha, he, hb⟩ => ⟨.inl ⟨ho, a, rsv_yes ho ha, he⟩, hb⟩
  · exact (Ck.refResolve_no d h i near w ho).mono fun e w' ⟨he, hb⟩ => ⟨.inr ⟨ho, rsv_no ho, he⟩, hb ▸ Below.refl _ _⟩
/-- The date of a minute. -/
def Dt (t y m d h i : Int) : Prop := Ck.Cal.vld y m d h i = true ∧ Ck.Cal.num y m d h i = t
open Classical in
noncomputable def dayOf (t : Int) : Int := if x : ∃ d y m h i, Dt t y m d h i then Classical.choose x else 0
def hourOf (t : Int) : Int := t % 1440 / 60
def minOf (t : Int) : Int := t % 1440 % 60
theorem dt_of {t : Int} (h : 0 ≤ t ∧ t ≤ 52595999) : ∃ y m, Dt t y m (dayOf t) (hourOf t) (minOf t) := by
  obtain ⟨y, m, d, p, q, hv, hn, -, -, e1, e2⟩ := Ck.Cal.num_of t h.1 h.2
  have x : ∃ d y m h i, Dt t y m d h i := ⟨d, y, m, p, q, hv, hn⟩
  have ed : dayOf t = d := by
    unfold dayOf; rw [dif_pos x]
    obtain ⟨y', m', p', q', hv', hn'⟩ := Classical.choose_spec x
    exact (Ck.Cal.num_inj hv' hv (hn'.trans hn.symm)).2.2.1
  refine ⟨y, m, ?_⟩
  rw [ed, show hourOf t = p from e1.symm, show minOf t = q from e2.symm]
  exact ⟨hv, hn⟩
theorem dt_bd {t : Int} (h : 0 ≤ t ∧ t ≤ 52595999) : (1 ≤ dayOf t ∧ dayOf t ≤ 31) ∧ (0 ≤ hourOf t ∧ hourOf t ≤ 23) ∧ (0 ≤ minOf t ∧ minOf t ≤ 59) := by
  obtain ⟨y, m, hv, -⟩ := dt_of h
  obtain ⟨⟨a1, a2, a3, a4⟩, a5, a6, a7, a8, a9, a10⟩ := Ck.Cal.vld_iff.1 hv
  have := Ck.Cal.dim_bd y m
  exact ⟨⟨a5, by omega⟩, ⟨a7, a8⟩, a9, a10⟩
theorem date_is (t : Int) (w : World) (hT : Ck.Tab w) (h : 0 ≤ t ∧ t ≤ 52595999) :
    Calls Tryz.prog 50 #[.int .i64 t] w fun e w' => (∃ y m, e = .returned (.tuple #[.agg #[.int .i64 y, .int .i64 m, .int .i64 (dayOf t), .int .i64 (hourOf t), .int .i64 (minOf t)], .int .i64 0])) ∧ Below w.heap.size w w' := by
  obtain ⟨y, m, hv, hn⟩ := dt_of h
  exact (Ck.date_yes t y m _ _ _ w hT hn hv).mono fun e w' ⟨he, hb⟩ => ⟨⟨y, m, he⟩, hb⟩
theorem refDate_is (t : Int) (w : World) (h : 0 ≤ t ∧ t ≤ 52595999) :
    Calls Tryz.prog 79 #[.int .i64 t] w fun e w' => (∃ y m, e = .returned (.tuple #[.agg #[.int .i64 y, .int .i64 m, .int .i64 (dayOf t), .int .i64 (hourOf t), .int .i64 (minOf t)], .int .i64 0])) ∧ Below w.heap.size w w' := by
  obtain ⟨y, m, hv, hn⟩ := dt_of h
  exact (Ck.refDate_yes t y m _ _ _ w hn hv).mono fun e w' ⟨he, hb⟩ => ⟨⟨y, m, he⟩, hb⟩
/-- The minute t is named by its own day, hour and minute near near. -/
def Rdb (t near : Int) : Prop := rsv (dayOf t) (hourOf t) (minOf t) near = some t
open Classical in
noncomputable def rdb (t near : Int) : Bool := decide (Rdb t near)
theorem rdb_iff {t near : Int} : rdb t near = true ↔ Rdb t near := by unfold rdb; simp
theorem rdb_near {t near : Int} (h : 0 ≤ t ∧ t ≤ 52595999) (hn : 0 ≤ near ∧ near ≤ 52595999) (h1 : near - 20160 < t) (h2 : t < near + 20160) : Rdb t near := by
  obtain ⟨y, m, hv, e⟩ := dt_of h
  obtain ⟨b1, b2, b3⟩ := dt_bd h
  have := Ck.nearest_near (near := near) hv (by omega) (by omega)
  rw [e] at this
  exact rsv_yes ⟨b1, Ck.Cal.vld_tod hv, Ck.Cal.rng_yes hn.1 hn.2⟩ this
/-- What is named has the same day, hour and minute, and is a minute. -/
theorem rsv_own {d h i near a : Int} (h0 : rsv d h i near = some a) : (0 ≤ a ∧ a ≤ 52595999) ∧ dayOf a = d ∧ hourOf a = h ∧ minOf a = i := by
  obtain ⟨ho, hn⟩ := rsv_some h0
  have hb := hn.bd
  obtain ⟨⟨M, hM, rfl⟩, -⟩ := hn
  obtain ⟨y, m, hv, e⟩ := dt_of hb
  have := Ck.Cal.num_inj hv hM e
  exact ⟨hb, this.2.2.1, this.2.2.2.1, this.2.2.2.2⟩
theorem validate_is (k : Int) (nm : ByteArray) (t F A B C : Int) (u : Value) (L : List El.Elt.R) (c : Int) (w : World) (hL : El.RdIn w u L) (hT : El.Tab w) (hc : vcode k nm t F A B C L = c) :
    Calls Tryz.prog 13 #[repV k nm t F A B C u] w fun e w' => e = .returned (.int .i64 c) ∧ Below w.heap.size w w' := hc ▸ validate_any k nm t F A B C u L w hL hT
set_option maxHeartbeats 1000000 in
theorem readable_any (k : Int) (nm : ByteArray) (t F A B C : Int) (u : Value) (L : List El.Elt.R) (near : Int) (w : World) (hL : El.RdIn w u L) (hE : Env w) :
    Calls Tryz.prog 15 #[repV k nm t F A B C u, .int .i64 near] w fun e w' => e = .returned (.bool (decide (vcode k nm t F A B C L = 0) && rdb t near)) ∧ Below w.heap.size w w' := by
  have b1 := (Below.refl w.heap.size w).alloc (Nat.le_refl _) (.cells (repC k nm t F A B C u) 26)
  have r1 := Row.new w (repC k nm t F A B C u) 26
  have hE1 := hE.under b1
  have hL1 := hL.under b1
  generalize hc : vcode k nm t F A B C L = c
  have hcb := vcode_bd k nm t F A B C L
  rw [hc] at hcb
  by_cases h0 : c = 0
  · have hV := Vd.of (hc.trans h0)
    have ht := hV.time
    have R := Lib.hid (show (decide (c = 0) && rdb t near) = rdb t near by rw [decide_eq_true h0, Bool.true_and])
    have HC := Lib.hid (hc.trans h0); clear hc hcb h0 hV
    obtain ⟨td, th, tm⟩ := dt_bd ht
    go_enter Tryz.func15, Tryz.ntmps15
    go_wp2_with fail
    generalize hW1 : w.alloc (.cells (repC k nm t F A B C u) 26) = W1 at *
    refine (validate_is k nm t F A B C u L 0 _ hL1 hE1.tab HC.out).mono ?_
    rintro e w2 ⟨rfl, g2⟩
    have b2 := b1.trans (g2.mono b1.size)
    have r2 := r1.under g2
    have hE2 := hE1.under g2
    clear g2 b1 r1 hL hL1 hE1 hE hW1
    obtain ⟨c0, c1, c2, c3, c4, c5, c6, c7⟩ := row8 r2
    go_wp2_with fail
    refine (date_is t _ hE2.ck ht).mono ?_
    rintro e w3 ⟨⟨y, m, rfl⟩, g3⟩
    have b3 := b2.trans (g3.mono b2.size)
    have r3 := r2.under g3
    have hE3 := hE2.under g3
    have hE4 := hE3.alloc (.cells #[.int .i64 y, .int .i64 m, .int .i64 (dayOf t), .int .i64 (hourOf t), .int .i64 (minOf t)] 75)
    have b4 := b3.alloc b3.size (.cells #[.int .i64 y, .int .i64 m, .int .i64 (dayOf t), .int .i64 (hourOf t), .int .i64 (minOf t)] 75)
    have r4 := r3.alloc (.cells #[.int .i64 y, .int .i64 m, .int .i64 (dayOf t), .int .i64 (hourOf t), .int .i64 (minOf t)] 75)
    clear g3 b2 r2 b3 r3 c0 c1 c2 c3 c4 c5 c6 c7 hE2 hE3
    have RS := Lib.hid (resolve_is (dayOf t) (hourOf t) (minOf t) near)
    have RB := Lib.hid (show rdb t near = true ↔ rsv (dayOf t) (hourOf t) (minOf t) near = some t from rdb_iff)
    unfold RsvR at RS
    generalize rsv (dayOf t) (hourOf t) (minOf t) near = o at *
    generalize dayOf t = d0 at *
    generalize hourOf t = h0 at *
    generalize minOf t = m0 at *
    go_wp2_with fail
    refine (RS.out _ hE4.ck).mono ?_
    rintro e w5 ⟨hr, g5⟩
    have b5 := b4.trans (g5.mono b4.size)
    have r5 := r4.under g5
    obtain ⟨c0, c1, c2, c3, c4, c5, c6, c7⟩ := row8 r5
    clear g5 b4 r4
    rcases hr with ⟨-, a, ha, rfl⟩ | ⟨-, ha, rfl⟩
    · by_cases hat : a = t
      · subst hat
        have Q := Lib.hid (RB.out.2 ha)
        clear ha
        go_wp2_with fail
        go_ret
        exact ⟨ret_bool (by rw [R.out, Q.out]), b5⟩
      · have Q := Lib.hid (show rdb t near = false by rw [← Bool.not_eq_true]; intro x; exact hat (Option.some.inj (ha.symm.trans (RB.out.1 x))))
        have qa : (a == t) = false := beq_eq_false_iff_ne.2 hat
        clear ha hat
        go_wp2_with fail
        go_ret
        exact ⟨ret_bool (by rw [R.out, Q.out]), b5⟩
    · have Q := Lib.hid (show rdb t near = false by rw [← Bool.not_eq_true]; intro x; have := ha.symm.trans (RB.out.1 x); cases this)
      clear ha
      go_wp2_with fail
      go_ret
      exact ⟨ret_bool (by rw [R.out, Q.out]), b5⟩
  · have R := Lib.hid (show (decide (c = 0) && rdb t near) = false by rw [decide_eq_false h0, Bool.false_and])
    have HC := Lib.hid hc; clear hc
    have q : (c != 0) = true := by rw [bne_iff_ne]; exact h0
    clear h0
    go_enter Tryz.func15, Tryz.ntmps15
    go_wp2_with fail
    refine (validate_is k nm t F A B C u L c _ hL1 hE1.tab HC.out).mono ?_
    rintro e w2 ⟨rfl, g2⟩
    go_wp2_with fail
    go_ret
    exact ⟨ret_bool (by rw [R.out]), b1.trans (g2.mono b1.size)⟩
end Go.Proofs.YtneglkfcelpdgaaGreatDoor
namespace Go.Proofs.YtneglkfcelpdgaaGreatDoor
open Go.RowKit
open Ck (dig2 b10)

theorem conv_two (w : World) (c d : Int) (h1 : 0 ≤ c) (h2 : c ≤ 9) (h3 : 0 ≤ d) (h4 : d ≤ 9) :
    (convert 45 9 (.slice (some ⟨w.heap.size, 0, none⟩) 2 2)).run Tryz.prog (w.alloc (.cells #[.int .u8 (48 + c), .int .u8 (48 + d)] 5)) = .ok (.string (S [b10 c, b10 d])) (w.alloc (.cells #[.int .u8 (48 + c), .int .u8 (48 + d)] 5)) := by
  have h := run_convert_bytes_arg (P := Tryz.prog) (w.alloc (.cells #[.int .u8 (48 + c), .int .u8 (48 + d)] 5)) 45 5 Tryz.underlying45 Tryz.underlying5 w.heap.size 0 2 2 [48 + c, 48 + d] rfl
    (fun i hi => by
      have hw := heap_alloc_new w (.cells #[.int .u8 (48 + c), .int .u8 (48 + d)] 5)
      rcases (by omega : i = 0 ∨ i = 1) with rfl | rfl
      · unfold World.cell?; rw [hw]; rfl
      · unfold World.cell?; rw [hw]; rfl) 9 Tryz.underlying9
  rw [h]
  rw [show strOfNums [48 + c, 48 + d] = S [b10 c, b10 d] by
    unfold strOfNums S b10
    simp only [List.map_cons, List.map_nil]
    rw [show (48 + c).toNat = 48 + c.toNat by omega, show (48 + d).toNat = 48 + d.toNat by omega]]
set_option maxHeartbeats 400000 in
theorem twoDigits_any (n : Int) (w : World) (h1 : 0 ≤ n) (h2 : n ≤ 99) :
    Calls Tryz.prog 70 #[.int .i64 n] w fun e w' => e = .returned (.string (S (dig2 n))) ∧ Below w.heap.size w w' := by
  have kc := conv_two w (n / 10) (n % 10) (by omega) (by omega) (by omega) (by omega)
  go_enter Tryz.func70, Tryz.ntmps70
  go_wp2
  go_ret
  exact ⟨rfl, (Below.refl _ _).alloc (Nat.le_refl _) _⟩
/-- The word of a minute. -/
noncomputable def stp (t : Int) : List UInt8 := dig2 (dayOf t) ++ dig2 (hourOf t) ++ dig2 (minOf t)
theorem twoDigits_from (n : Int) (w0 w : World) (h1 : 0 ≤ n) (h2 : n ≤ 99) (hb : Below w0.heap.size w0 w) :
    Calls Tryz.prog 70 #[.int .i64 n] w fun e w' => e = .returned (.string (S (dig2 n))) ∧ Below w0.heap.size w0 w' :=
  (twoDigits_any n w h1 h2).mono fun _ _ ⟨he, hg⟩ => ⟨he, hb.trans (hg.mono hb.size)⟩
theorem row5 {w : World} {b : Nat} {t : TypeId} {x0 x1 x2 x3 x4 : Value} (h : Row w b t #[x0, x1, x2, x3, x4]) :
    w.cell? ⟨b, 0, none⟩ = some x0 ∧ w.cell? ⟨b, 1, none⟩ = some x1 ∧ w.cell? ⟨b, 2, none⟩ = some x2 ∧ w.cell? ⟨b, 3, none⟩ = some x3 ∧ w.cell? ⟨b, 4, none⟩ = some x4 :=
  ⟨(h.cell 0).trans rfl, (h.cell 1).trans rfl, (h.cell 2).trans rfl, (h.cell 3).trans rfl, (h.cell 4).trans rfl⟩
theorem dig2_len (n : Int) : (dig2 n).length = 2 := rfl
theorem cells3 {Y X : World} {g : Nat} {ty : TypeId} {x0 x1 x2 x3 x4 : Value} (r : Row Y g ty #[x0, x1, x2, x3, x4]) (hb : Below Y.drew.heap.size Y.drew X) :
    X.cell? ⟨g, 2, none⟩ = some x2 ∧ X.cell? ⟨g, 3, none⟩ = some x3 ∧ X.cell? ⟨g, 4, none⟩ = some x4 := by
  obtain ⟨-, -, c2, c3, c4⟩ := row5 (r.drew.under hb)
  exact ⟨c2, c3, c4⟩
attribute [local go_sem] S_add S_size dig2_len
set_option maxHeartbeats 2000000 in
theorem stamp_any (t : Int) (w : World) (hT : Ck.Tab w) (h : 0 ≤ t ∧ t ≤ 52595999) :
    Calls Tryz.prog 34 #[.int .i64 t] w fun e w' => e = .returned (.tuple #[.string (S (stp t)), .int .i64 0]) ∧ Below w.heap.size w w' := by
  obtain ⟨td, th, tm⟩ := dt_bd h
  have HS := Lib.hid (show stp t = dig2 (dayOf t) ++ dig2 (hourOf t) ++ dig2 (minOf t) from rfl)
  have HD := Lib.hid (date_is t w hT h)
  generalize dayOf t = d at *
  generalize hourOf t = p at *
  generalize minOf t = q at *
  go_enter Tryz.func34, Tryz.ntmps34
  go_wp2_with fail
  refine HD.out.mono ?_
  rintro e w2 ⟨⟨y, m, rfl⟩, g2⟩
  go_upto_region 4 with fail
  refine forget (fun Y => Below w.heap.size w Y ∧ Row Y w2.heap.size 75 #[.int .i64 y, .int .i64 m, .int .i64 d, .int .i64 p, .int .i64 q]) ⟨g2.alloc g2.size _, Row.new _ _ _⟩ ?_
  rintro Y ⟨bY, r⟩
  generalize w2.heap.size = g at *
  have h0 := r.lt
  have BY := Lib.hid bY
  have R := Lib.hid r
  have hb2 := Below.refl Y.drew.heap.size Y.drew
  obtain ⟨c2, c3, c4⟩ := cells3 r hb2
  clear r bY g2 HD
  go_region_held3 (fun w' => w'.cell? ⟨g, 2, none⟩ = some (.int .i64 d) ∧ w'.cell? ⟨g, 3, none⟩ = some (.int .i64 p) ∧ w'.cell? ⟨g, 4, none⟩ = some (.int .i64 q))
    (first | go_keep | exact cells3 R.out hb2)
    (first | (go_at_call 70; refine (twoDigits_from _ Y.drew _ (by omega) (by omega) hb2).mono ?_; clear hb2; rintro e w2 ⟨rfl, hb2⟩))
  go_wp2_with fail
  go_ret2
  exact ⟨ret_str2 (by rw [HS.out]; simp), BY.out.trans ((undrew hb2).mono BY.out.size)⟩
/-- The words of a report's text. -/
noncomputable def wds (k : Int) (nm : ByteArray) (t F A B : Int) (L : List El.Elt.R) : List (List UInt8) :=
  [kw k, nm.data.toList, stp t] ++ (if k = 1 then [] else [Pl.txt F.toNat A B]) ++ L.map fun r => El.Elt.txt r.1 r.2
/-- The text. -/
noncomputable def gtx (k : Int) (nm : ByteArray) (t F A B : Int) (L : List El.Elt.R) : List UInt8 := Lib.join (wds k nm t F A B L) [32]
theorem vld_zero {L : List El.Elt.R} (h : El.Elt.vld L = 0) : (∀ r ∈ L, El.Elt.Val r.1 r.2) ∧ El.Elt.Asc L := by
  by_cases h4 : ∃ r ∈ L, El.Elt.chk r.1 r.2 = 4
  · rw [El.Elt.vld_kind h4] at h; omega
  · by_cases h1 : ∃ r ∈ L, El.Elt.chk r.1 r.2 = 1
    · rw [El.Elt.vld_range h4 h1] at h; omega
    · by_cases ha : El.Elt.Asc L
      · refine ⟨fun r hr => ?_, ha⟩
        rcases El.Elt.chk_cases r.1 r.2 with ⟨hv, -⟩ | ⟨-, -, e⟩ | ⟨-, e⟩
        · exact hv
        · exact absurd ⟨r, hr, e⟩ h1
        · exact absurd ⟨r, hr, e⟩ h4
      · rw [(El.Elt.vld_sort h4 h1).2 ha] at h; omega
theorem vld_len {L : List El.Elt.R} (h : El.Elt.vld L = 0) : L.length ≤ 11 := by
  obtain ⟨hv, ha⟩ := vld_zero h
  have key : ∀ j (hj : j < L.length), (j : Int) + 1 ≤ (L[j]).1 := by
    intro j
    induction j with
    | zero => intro hj; have := (hv _ (List.getElem_mem hj)).1.1; omega
    | succ j ih => intro hj; have := ih (by omega); have := ha j hj; omega
  rcases Nat.lt_or_ge 11 L.length with hl | hl
  · have h1 := key 11 hl
    have := (hv _ (List.getElem_mem hl)).1.2
    omega
  · exact hl
end Go.Proofs.YtneglkfcelpdgaaGreatDoor
namespace Go.Proofs.YtneglkfcelpdgaaGreatDoor
open Go.RowKit
open Ck (dig2 b10)

theorem kw_ne : ∀ i j : Fin 3, i ≠ j → kws.getD i [] ≠ kws.getD j [] := by decide
theorem load_kinds (w : World) (hE : Env w) : w.cell? ⟨0, 0, none⟩ = some (.string (S (kw 1))) ∧ w.cell? ⟨0, 1, none⟩ = some (.string (S (kw 2))) ∧ w.cell? ⟨0, 2, none⟩ = some (.string (S (kw 3))) :=
  ⟨hE.kd 0 (by omega), hE.kd 1 (by omega), hE.kd 2 (by omega)⟩
set_option maxHeartbeats 1000000 in
theorem kindOf_yes (k : Int) (hk : 1 ≤ k ∧ k ≤ 3) (w : World) (hE : Env w) :
    Calls Tryz.prog 98 #[.string (S (kw k))] w fun e w' => e = .returned (.tuple #[.int .i64 k, .int .i64 0]) ∧ w' = w := by
  obtain ⟨c0, c1, c2⟩ := load_kinds w hE
  clear hE
  have e12 : ((S (kw 1)).toList == (S (kw 2)).toList) = false := toList_ne fun e => absurd (S_inj e) (by decide)
  have e13 : ((S (kw 1)).toList == (S (kw 3)).toList) = false := toList_ne fun e => absurd (S_inj e) (by decide)
  have e23 : ((S (kw 2)).toList == (S (kw 3)).toList) = false := toList_ne fun e => absurd (S_inj e) (by decide)
  have e11 : ((S (kw 1)).toList == (S (kw 1)).toList) = true := beq_self_eq_true _
  have e22 : ((S (kw 2)).toList == (S (kw 2)).toList) = true := beq_self_eq_true _
  have e33 : ((S (kw 3)).toList == (S (kw 3)).toList) = true := beq_self_eq_true _
  have j0 : ∀ w, (Instr.index 65 (.agg #[.string (S (kw 1)), .string (S (kw 2)), .string (S (kw 3))]) (.int .i64 0)).run Tryz.prog w = .ok (.string (S (kw 1))) w := fun _ => by kernel_rfl
  have j1 : ∀ w, (Instr.index 65 (.agg #[.string (S (kw 1)), .string (S (kw 2)), .string (S (kw 3))]) (.int .i64 1)).run Tryz.prog w = .ok (.string (S (kw 2))) w := fun _ => by kernel_rfl
  have j2 : ∀ w, (Instr.index 65 (.agg #[.string (S (kw 1)), .string (S (kw 2)), .string (S (kw 3))]) (.int .i64 2)).run Tryz.prog w = .ok (.string (S (kw 3))) w := fun _ => by kernel_rfl
  rcases (by omega : k = 1 ∨ k = 2 ∨ k = 3) with rfl | rfl | rfl
  · generalize S (kw 1) = s1 at *
    generalize S (kw 2) = s2 at *
    generalize S (kw 3) = s3 at *
    go_enter Tryz.func98, Tryz.ntmps98
    go_wp2_with fail
    go_loop [4, 5, 7] (fun _ _ t => t = .int .i64 0) (fun _ _ t => (3 - intOf t).toNat)
    case atStart => rfl
    case round =>
      obtain rfl := hrel
      go_wp2_with fail
      go_ret2
      exact ⟨rfl, rfl⟩
  · generalize S (kw 1) = s1 at *
    generalize S (kw 2) = s2 at *
    generalize S (kw 3) = s3 at *
    go_enter Tryz.func98, Tryz.ntmps98
    go_wp2_with fail
    go_loop [4, 5, 7] (fun _ _ t => t = .int .i64 0 ∨ t = .int .i64 1) (fun _ _ t => (3 - intOf t).toNat)
    case atStart => exact .inl rfl
    case round =>
      rcases hrel with rfl | rfl
      · go_wp2_with fail
        go_round
        case rel => exact .inr rfl
        case measure => simp [intOf]
      · go_wp2_with fail
        go_ret2
        exact ⟨rfl, rfl⟩
  · generalize S (kw 1) = s1 at *
    generalize S (kw 2) = s2 at *
    generalize S (kw 3) = s3 at *
    go_enter Tryz.func98, Tryz.ntmps98
    go_wp2_with fail
    go_loop [4, 5, 7] (fun _ _ t => t = .int .i64 0 ∨ t = .int .i64 1 ∨ t = .int .i64 2) (fun _ _ t => (3 - intOf t).toNat)
    case atStart => exact .inl rfl
    case round =>
      rcases hrel with rfl | rfl | rfl
      · go_wp2_with fail
        go_round
        case rel => exact .inr (.inl rfl)
        case measure => simp [intOf]
      · go_wp2_with fail
        go_round
        case rel => exact .inr (.inr rfl)
        case measure => simp [intOf]
      · go_wp2_with fail
        go_ret2
        exact ⟨rfl, rfl⟩
set_option maxHeartbeats 400000 in
theorem number_any (s : ByteArray) (w : World) (hd : Pl.digs s.data.toList = true) (hs : s.size ≤ 3) :
    Calls Tryz.prog 125 #[.string s] w fun e w' => e = .returned (.int .i64 (Pl.numv s.data.toList)) ∧ w = w' := by
  have HD := Lib.hid hd; clear hd
  go_enter Tryz.func125, Tryz.ntmps125
  go_wp2
  go_loop [3, 7] (fun n i => ∃ k : Nat, k ≤ s.size ∧ i = .int .i64 k ∧ n = .int .i64 (Pl.numv (s.data.toList.take k))) (fun _ i => s.size - (intOf i).toNat)
  case atStart => exact ⟨0, Nat.zero_le _, rfl, rfl⟩
  case round =>
    obtain ⟨k, hk, rfl, rfl⟩ := hrel
    have hl : (s.data.toList.take k).length = k := by rw [List.length_take]; simp only [Array.length_toList]; have : s.data.size = s.size := rfl; omega
    obtain ⟨hb1, hb2, -⟩ := Pl.numv_bd _ (Pl.digs_take k HD.out) (by omega)
    by_cases hlt : k < s.size
    · have hts := Pl.take_snoc s k hlt
      have H := Lib.hid (show Pl.numv (s.data.toList.take (k + 1)) = 10 * Pl.numv (s.data.toList.take k) + ((s[k].toNat : Int) - 48) by rw [hts, Pl.numv_snoc]; omega)
      obtain ⟨hc1, hc2⟩ := Pl.digs_at HD.out hlt
      have hc3 : (48 : Int) ≤ (s[k].toNat : Int) := by omega
      have hc4 : (s[k].toNat : Int) ≤ 57 := by omega
      clear hts hl
      go_wp2
      go_round
      case rel => exact ⟨k + 1, by omega, by go_num, by rw [H.out]⟩
      case measure => simp [intOf]; omega
    · have T := Lib.hid (show s.data.toList.take k = s.data.toList from List.take_of_length_le (by simp; omega))
      clear hl
      go_wp2
      go_ret
      exact ⟨ret_i64 (by rw [T.out]), rfl⟩

end Go.Proofs.YtneglkfcelpdgaaGreatDoor
namespace Go.Proofs.YtneglkfcelpdgaaGreatDoor
open Go.RowKit
open Ck (dig2 b10)

theorem b10_toNat {x : Int} (h1 : 0 ≤ x) (h2 : x ≤ 9) : ((b10 x).toNat : Int) = 48 + x := by
  unfold b10
  rw [UInt8.toNat_ofNat_of_lt' (by simp only [UInt8.size]; omega)]; omega
theorem digs_dig2 {n : Int} (h1 : 0 ≤ n) (h2 : n ≤ 99) : Pl.digs (dig2 n) = true := by
  have a := b10_toNat (x := n / 10) (by omega) (by omega)
  have b := b10_toNat (x := n % 10) (by omega) (by omega)
  unfold dig2
  rw [Pl.digs_cons, Pl.digs_cons]
  exact ⟨⟨by omega, by omega⟩, ⟨by omega, by omega⟩, rfl⟩
theorem numv_dig2 {n : Int} (h1 : 0 ≤ n) (h2 : n ≤ 99) : Pl.numv (dig2 n) = n := by
  have a := b10_toNat (x := n / 10) (by omega) (by omega)
  have b := b10_toNat (x := n % 10) (by omega) (by omega)
  simp only [Pl.numv, dig2, List.foldl]; omega
theorem digs_app (a b : List UInt8) : Pl.digs (a ++ b) = (Pl.digs a && Pl.digs b) := by simp [Pl.digs]
theorem extract_S (l : List UInt8) (a b : Nat) : (S l).extract a b = S ((l.drop a).take (b - a)) := by
  have : ((S l).extract a b).data.toList = (l.drop a).take (b - a) := by
    unfold S; simp [ByteArray.data_extract, List.extract]
  rw [← S_of ((S l).extract a b), this]
theorem number_two (n : Int) (w : World) (h1 : 0 ≤ n) (h2 : n ≤ 99) :
    Calls Tryz.prog 125 #[.string (S (dig2 n))] w fun e w' => e = .returned (.int .i64 n) ∧ w = w' := by
  have h := number_any (S (dig2 n)) w (by rw [S_list]; exact digs_dig2 h1 h2) (by rw [S_size]; exact Nat.le_succ 2)
  rw [S_list, numv_dig2 h1 h2] at h
  exact h
theorem number_from (n : Int) (w0 w : World) (h1 : 0 ≤ n) (h2 : n ≤ 99) (hb : Below w0.heap.size w0 w) :
    Calls Tryz.prog 125 #[.string (S (dig2 n))] w fun e w' => e = .returned (.int .i64 n) ∧ Below w0.heap.size w0 w' :=
  (number_two n w h1 h2).mono fun _ _ ⟨he, hw⟩ => ⟨he, hw ▸ hb⟩
theorem resolve_from (d h i near a : Int) (w0 w : World) (hT : Ck.Tab w0) (hr : rsv d h i near = some a) (hb : Below w0.heap.size w0 w) :
    Calls Tryz.prog 51 #[.int .i64 d, .int .i64 h, .int .i64 i, .int .i64 near] w fun e w' => e = .returned (.tuple #[.int .i64 a, .int .i64 0]) ∧ Below w0.heap.size w0 w' :=
  (resolve_is d h i near w (hT.under hb)).mono fun _ _ ⟨hc, hg⟩ => by
    rcases hc with ⟨-, b, hb2, rfl⟩ | ⟨-, hn, -⟩
    · rw [hr] at hb2
      obtain rfl := Option.some.inj hb2
      exact ⟨rfl, hb.trans (hg.mono hb.size)⟩
    · rw [hr] at hn; cases hn
set_option maxHeartbeats 1000000 in
set_option maxHeartbeats 400000 in
set_option maxRecDepth 100000 in
theorem res_yes (d h i near a : Int) (w : World) (hT : Ck.Tab w) (h1 : 0 ≤ d ∧ d ≤ 99) (h2 : 0 ≤ h ∧ h ≤ 99) (h3 : 0 ≤ i ∧ i ≤ 99) (hr : rsv d h i near = some a) :
    Calls Tryz.prog 99 #[.string (S (dig2 d ++ dig2 h ++ dig2 i)), .int .i64 near] w fun e w' => e = .returned (.tuple #[.int .i64 a, .int .i64 0]) ∧ Below w.heap.size w w' := by
  obtain ⟨near1, near2⟩ : 0 ≤ near ∧ near ≤ 52595999 := by
    have h := (rsv_some hr).1.2.2
    unfold Ck.Cal.rng at h
    exact of_decide_eq_true h
  have sz : (S (dig2 d ++ dig2 h ++ dig2 i)).size = 6 := by rw [S_size]; rfl
  have q : (((S (dig2 d ++ dig2 h ++ dig2 i)).size : Int) != 6) = false := by rw [sz]; rfl
  have x1 : (S (dig2 d ++ dig2 h ++ dig2 i)).extract 0 2 = S (dig2 d) := by rw [extract_S]; rfl
  have x2 : (S (dig2 d ++ dig2 h ++ dig2 i)).extract 2 4 = S (dig2 h) := by rw [extract_S]; rfl
  have x3 : (S (dig2 d ++ dig2 h ++ dig2 i)).extract 4 6 = S (dig2 i) := by rw [extract_S]; rfl
  have hd : Pl.digs (S (dig2 d ++ dig2 h ++ dig2 i)).data.toList = true := by
    rw [S_list, digs_app, digs_app, digs_dig2 h1.1 h1.2, digs_dig2 h2.1 h2.2, digs_dig2 h3.1 h3.2]; rfl
  have TA := Lib.hid (fun w => trim_any (S (dig2 d ++ dig2 h ++ dig2 i)) Pl.ten w (by omega) (by omega) (by decide) (by decide) (by decide))
  rw [Pl.trim_digs hd] at TA
  have e0 := empty_eq
  have RS := Lib.hid (fun w0 w hT hb => resolve_from d h i near a w0 w hT hr hb)
  generalize S (dig2 d ++ dig2 h ++ dig2 i) = s at *
  generalize hy : (⟨([] : List UInt8).toArray⟩ : ByteArray) = y at *
  have HY := Lib.hid hy
  clear hy hd hr
  go_enter Tryz.func99, Tryz.ntmps99
  go_wp2_with fail
  refine (TA.out _).mono ?_
  rintro e w1 ⟨rfl, g1⟩
  have G1 := Lib.hid g1
  have T1 := Lib.hid (hT.under g1)
  clear g1 hT TA
  go_upto_region 5 with fail
  have hb2 := Below.refl w1.drew.heap.size w1.drew
  have T1 : Hid (Ck.Tab w1.drew) := Lib.hid T1.out.drew
  go_region_held3 (fun _ => True) (trivial)
    (first | (go_at_call 125; refine (number_from _ w1.drew _ (by omega) (by omega) hb2).mono ?_; clear hb2; rintro e w2 ⟨rfl, hb2⟩) | (go_at_call 51; refine (RS.out w1.drew _ T1.out hb2).mono ?_; clear hb2; rintro e w2 ⟨rfl, hb2⟩))
  go_wp2_with fail
  go_ret2
  exact ⟨rfl, G1.out.trans ((undrew hb2).mono G1.out.size)⟩
end Go.Proofs.YtneglkfcelpdgaaGreatDoor
