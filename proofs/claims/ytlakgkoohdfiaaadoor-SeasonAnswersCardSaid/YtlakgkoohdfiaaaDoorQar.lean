/- Texts of this proof. -/
import Derived.Test.YtlakgkoohdfiaaaDoorQaq
import Derived.DeepKeys4
import Derived.Maps.OwnSet
import Derived.Maps.RangeWalk
import Derived.Test.YtlakgkoohdfiaaaDoorQao
namespace Go.Proofs.YtlakgkoohdfiaaaDoor
open Go.RowKit Go.Maps

theorem laidOutK : laidOutB Tryd.prog = true := by kernel_rfl
theorem lawSl : Keyed Tryd.prog 118 :=
  Keyed.of_law (deep_law_laid (m := 3) laidOutK (by decide) (of_decide_eq_true (by kernel_rfl)) (by kernel_rfl) (by kernel_rfl))
theorem keyTS : Tryd.prog.keyType 118 = true := by kernel_rfl
theorem cellsS : Tryd.prog.cellsOf 118 = 3 := by kernel_rfl
theorem cells1 : Tryd.prog.cellsOf 3 = 1 := by kernel_rfl
/-- A slot: element, face, month. -/
abbrev Sl := Int × Int × Int
def slV (k : Sl) : Value := .agg #[.int .i64 k.1, .int .i64 k.2.1, .int .i64 k.2.2]
def SlOk (k : Sl) : Prop := I64 k.1 ∧ I64 k.2.1 ∧ I64 k.2.2
theorem wf64 {x : Int} (h : I64 x) : (Lit.int .i64 x).wf = true := by
  have e1 : IntKind.i64.min = -9223372036854775808 := by decide
  have e2 : IntKind.i64.max = 9223372036854775807 := by decide
  obtain ⟨h1, h2⟩ := h
  simp only [Lit.wf, e1, e2, Bool.and_eq_true, decide_eq_true_eq]
  exact ⟨h1, h2⟩
/-- An element reads as itself. -/
def MsR : Value → Option (DataW Value × List MemPlace) := fun v => some (.held v, [])
set_option maxRecDepth 100000 in
theorem key_some {k : Sl} (h : SlOk k) : ∃ l, keyOf Tryd.prog 118 (slV k) = some l := by
  have hts : ∃ d, Tryd.prog.types.size = d + 1 := ⟨Tryd.prog.types.size - 1, by have : 0 < Tryd.prog.types.size := of_decide_eq_true (by kernel_rfl); omega⟩
  obtain ⟨d, hd⟩ := hts
  obtain ⟨w1, w2, w3⟩ := h
  have w1 := wf64 w1
  have w2 := wf64 w2
  have w3 := wf64 w3
  have e1 : ∀ x, (Lit.int .i64 x).wf = true → Tryd.prog.keyLits (d + 1) 3 [.int .i64 x] = some [.int .i64 x] := fun x hx => by
    unfold Program.keyLits
    rw [Tryd.underlying3]
    simp [hx]
  unfold keyOf
  rw [Tryd.underlying118]
  simp only [keyTS, Bool.true_and]
  have hform : Value.formed Tryd.prog 118 (slV k) = true := by
    unfold Value.formed slV
    rw [Tryd.underlying118, cellsS]
    rfl
  rw [hform, if_pos rfl, hd]
  unfold Program.keyLits slV
  rw [Tryd.underlying118]
  simp only [cellsS, Value.cells]
  rw [if_pos ⟨rfl, by first | decide | simp⟩]
  simp [cells1, e1, w1, w2, w3]
noncomputable def nkS (k : Sl) : Lit := (keyOf Tryd.prog 118 (slV k)).getD (.bool false)
set_option maxRecDepth 100000 in
theorem nkS_of {k : Sl} (h : SlOk k) : keyOf Tryd.prog 118 (slV k) = some (nkS k) := by
  obtain ⟨l, hl⟩ := key_some h
  unfold nkS
  rw [hl]; rfl
set_option maxRecDepth 100000 in
theorem nkS_inj {k k' : Sl} (h : SlOk k) (h' : SlOk k') (e : nkS k = nkS k') : k = k' := by
  have e1 := lawSl.inj (nkS_of h) (e ▸ nkS_of h')
  unfold slV at e1
  injection e1 with e1
  simp at e1
  exact Prod.ext e1.1 (Prod.ext e1.2.1 e1.2.2)
set_option maxRecDepth 100000 in
theorem nkS_key {k : Sl} (h : SlOk k) : WideAt.IsKeyLit (nkS k) := lawSl.key (nkS_of h)
set_option maxRecDepth 100000 in
theorem nkS_inv {key : Value} {kl : Lit} (h : keyOf Tryd.prog 118 key = some kl) : ∃ k : Sl, key = slV k ∧ kl = nkS k ∧ SlOk k := by
  have h9 := h
  unfold keyOf at h
  rw [Tryd.underlying118] at h
  simp only [keyTS, Bool.true_and] at h
  by_cases hf : Value.formed Tryd.prog 118 key = true
  · rw [if_pos hf] at h
    have one : ∀ (d : Nat) (v : Value) (ls : List Lit), Tryd.prog.keyLits (d + 1) 3 [v] = some ls → ∃ x, v = .int .i64 x ∧ I64 x := by
      intro d v ls hl
      unfold Program.keyLits at hl
      rw [Tryd.underlying3] at hl
      cases v <;> simp at hl
      obtain ⟨⟨rfl, hw⟩, -⟩ := hl
      have e1 : IntKind.i64.min = -9223372036854775808 := by decide
      have e2 : IntKind.i64.max = 9223372036854775807 := by decide
      simp only [Lit.wf, e1, e2, Bool.and_eq_true, decide_eq_true_eq] at hw
      exact ⟨_, rfl, hw⟩
    have hts : ∃ d, Tryd.prog.types.size = d + 1 := ⟨Tryd.prog.types.size - 1, by have : 0 < Tryd.prog.types.size := of_decide_eq_true (by kernel_rfl); omega⟩
    obtain ⟨d, hd⟩ := hts
    rw [hd] at h
    cases key <;> simp [Value.formed, Tryd.underlying118, cellsS] at hf
    rename_i cs
    obtain ⟨a, b, c, rfl⟩ : ∃ a b c, cs = #[a, b, c] := by
      rcases cs with ⟨l⟩
      match l, hf with
      | [a, b, c], _ => exact ⟨a, b, c, rfl⟩
    unfold Program.keyLits at h
    rw [Tryd.underlying118] at h
    simp only [cellsS, Value.cells] at h
    rw [if_pos ⟨rfl, by first | decide | simp⟩] at h
    simp [cells1, Option.bind_eq_some_iff] at h
    obtain ⟨la, ha, _, ⟨lb, hb, _, ⟨lc, hc, -⟩, -⟩, -⟩ := h
    obtain ⟨x, rfl, hx⟩ := one d a la ha
    obtain ⟨y, rfl, hy⟩ := one d b lb hb
    obtain ⟨z, rfl, hz⟩ := one d c lc hc
    have hok : SlOk (x, y, z) := ⟨hx, hy, hz⟩
    exact ⟨(x, y, z), rfl, Option.some.inj (h9.symm.trans (nkS_of hok)), hok⟩
  · rw [if_neg (by simpa using hf)] at h; cases h
/-- Block b is a map of at most n slots that has f of each. -/
def Ms (w : World) (b n c : Nat) (f : Sl → Option Value) : Prop :=
  ∃ D : DataW Value, (w.ownsMap Tryd.prog 118 MsR b n D ∧ Maps.size D = c) ∧ ∀ k, SlOk k → Maps.has D (nkS k) = (f k).isSome ∧ ∀ z, D.atKey (nkS k) (.held z) = .held ((f k).getD z)
theorem Ms.made (w : World) : Ms (w.alloc (.map #[] 0)) w.heap.size 0 0 (fun _ => none) :=
  ⟨.map [], ⟨World.ownsMap_made _ _ _ _, rfl⟩, fun _ _ => ⟨rfl, fun _ => rfl⟩⟩
theorem Ms.lt {w : World} {b n c : Nat} {f : Sl → Option Value} (h : Ms w b n c f) : b < w.heap.size := by
  obtain ⟨D, ⟨h, -⟩, -⟩ := h
  exact h.lt
theorem Ms.kept {w w' : World} {b n c : Nat} {f : Sl → Option Value} {row : Option Nat} (h : Ms w b n c f) (hg : w.grownBy w' row) (hne : some b ≠ row) : Ms w' b n c f := by
  obtain ⟨D, ⟨h, s⟩, r⟩ := h
  exact ⟨D, ⟨h.kept hg hne, s⟩, r⟩
theorem Ms.ne_row {w : World} {b n c g : Nat} {f : Sl → Option Value} {t : TypeId} {cs : Array Value} (h : Ms w b n c f) (hr : Row w g t cs) : b ≠ g := by
  rintro rfl
  obtain ⟨D, ⟨⟨es, clock, hb, -⟩, -⟩, -⟩ := h
  unfold Row at hr
  rw [hb] at hr
  cases hr
set_option maxRecDepth 100000 in
/-- 'm[k]'. -/
theorem Ms.look {w : World} {b n c : Nat} {f : Sl → Option Value} (h : Ms w b n c f) {t e : TypeId} (ht : Tryd.prog.underlying t = some (.map 118 e)) {z : Value} (hz : (zeroValue e).run Tryd.prog w = .ok z w) {key : Sl} (hk : SlOk key) :
    (Instr.lookup t (.map (some b)) (slV key) false).run Tryd.prog w = .ok ((f key).getD z) w := by
  obtain ⟨D, ⟨h1, -⟩, h2⟩ := h
  obtain ⟨v, ps, hrun, hv⟩ := h1.lookup lawSl ht hz (zd := .held z) (zp := []) rfl (nkS_of hk)
  have hv1 := (Prod.mk.inj (Option.some.inj hv)).1
  rw [(h2 key hk).2 z] at hv1
  rw [hrun, DataW.held.inj hv1]
set_option maxRecDepth 100000 in
/-- 'm[k] = v'. -/
theorem Ms.update {w : World} {b n c : Nat} {f : Sl → Option Value} (h : Ms w b n c f) {t e : TypeId} (ht : Tryd.prog.underlying t = some (.map 118 e)) (hn : n < maxLen) {key : Sl} (hk : SlOk key) (val : Value) :
    ∃ w', (Instr.mapUpdate t (.map (some b)) (slV key) val).run Tryd.prog w = .ok () w' ∧ Ms w' b (n + 1) (if (f key).isSome = true then c else c + 1) (fun k => if k = key then some val else f k) ∧ w.grownBy w' (some b) := by
  obtain ⟨D, ⟨h1, hs⟩, h2⟩ := h
  obtain ⟨w', hrun, ho, hg⟩ := h1.update lawSl ht hn (key := slV key) (val := val) (kl := nkS key) (d := .held val) (ps := []) (nkS_of hk) rfl
  refine ⟨w', hrun, ⟨_, ⟨ho, by rw [size_put (h1.tidy lawSl), (h2 key hk).1, hs]⟩, fun k hok => ?_⟩, hg⟩
  by_cases e : k = key
  · subst e
    dsimp only
    rw [if_pos rfl, has_put_same h1.isMap (nkS_key hok)]
    exact ⟨rfl, fun z => by rw [atKey_put_same h1.isMap (nkS_key hok)]; rfl⟩
  · have hne : nkS k ≠ nkS key := fun q => e (nkS_inj hok hk q)
    dsimp only
    rw [if_neg e, has_put_other hne]
    exact ⟨(h2 k hok).1, fun z => by rw [atKey_put_other hne]; exact (h2 k hok).2 z⟩
/-- 'len(m)'. -/
theorem Ms.len {w : World} {b n c : Nat} {f : Sl → Option Value} (h : Ms w b n c f) {t e : TypeId} (ht : Tryd.prog.underlying t = some (.map 118 e)) (ty : TypeId) : (Builtin.len_ #[t] ty #[.map (some b)]).run Tryd.prog w = .ok (.int .i64 (c : Int)) w := by
  obtain ⟨D, ⟨h1, hs⟩, h2⟩ := h
  rw [h1.len ht ty, hs]
end Go.Proofs.YtlakgkoohdfiaaaDoor

namespace Go.Proofs.YtlakgkoohdfiaaaDoor
open Go.RowKit

/-- A tally: count, sum, least, most. -/
abbrev Tl := Int × Int × Int × Int
def tlV (t : Tl) : Value := .agg #[.int .i64 t.1, .int .i64 t.2.1, .int .i64 t.2.2.1, .int .i64 t.2.2.2]
def wth (t : Tl) (x : Int) : Tl := if t.1 = 0 then (1, x, x, x) else (t.1 + 1, t.2.1 + x, min t.2.2.1 x, max t.2.2.2 x)
/-- Bounds of a tally of at most k readings. -/
def TlOk (k : Nat) (t : Tl) : Prop := (0 ≤ t.1 ∧ t.1 ≤ (k : Int)) ∧ (-(11000 * t.1) ≤ t.2.1 ∧ t.2.1 ≤ 11000 * t.1) ∧ (-11000 ≤ t.2.2.1 ∧ t.2.2.1 ≤ 11000) ∧ (-11000 ≤ t.2.2.2 ∧ t.2.2.2 ≤ 11000)
theorem wth_ok {k : Nat} {t : Tl} {x : Int} (h : TlOk k t) (h1 : -11000 ≤ x) (h2 : x ≤ 11000) : TlOk (k + 1) (wth t x) := by
  obtain ⟨n, s, lo, hi⟩ := t
  unfold TlOk at h
  unfold wth
  dsimp only at *
  by_cases h0 : n = 0
  · rw [if_pos h0]
    exact ⟨⟨by show (0 : Int) ≤ 1; omega, by show (1 : Int) ≤ ((k + 1 : Nat) : Int); push_cast; omega⟩, ⟨by show -(11000 * (1 : Int)) ≤ x; omega, by show x ≤ 11000 * (1 : Int); omega⟩, ⟨h1, h2⟩, h1, h2⟩
  · rw [if_neg h0]
    exact ⟨⟨by show 0 ≤ n + 1; omega, by show n + 1 ≤ ((k + 1 : Nat) : Int); push_cast; omega⟩, ⟨by show -(11000 * (n + 1)) ≤ s + x; omega, by show s + x ≤ 11000 * (n + 1); omega⟩, ⟨by show -11000 ≤ min lo x; omega, by show min lo x ≤ 11000; omega⟩, by show -11000 ≤ max hi x; omega, by show max hi x ≤ 11000; omega⟩
set_option maxHeartbeats 1000000 in
theorem with_any (k : Nat) (t : Tl) (x : Int) (w : World) (hk : k ≤ 100000) (h : TlOk k t) (h1 : -11000 ≤ x) (h2 : x ≤ 11000) :
    Calls Tryd.prog 67 #[tlV t, .int .i64 x] w fun e w' => e = .returned (tlV (wth t x)) ∧ Below w.heap.size w w' := by
  obtain ⟨n, s, lo, hi⟩ := t
  obtain ⟨r, hr⟩ : ∃ r, wth (n, s, lo, hi) x = r := ⟨_, rfl⟩
  rw [hr]
  have HR := Lib.hid hr
  clear hr
  unfold TlOk at h
  dsimp only at h
  obtain ⟨⟨n0, n1⟩, ⟨a0, a1⟩, ⟨l0, l1⟩, m0, m1⟩ := h
  have I0 : Below w.heap.size w ((w.alloc (.cells #[.int .i64 n, .int .i64 s, .int .i64 lo, .int .i64 hi] 120)).alloc (.cells #[.int .i64 0, .int .i64 0, .int .i64 0, .int .i64 0] 120)) := ((Below.refl w.heap.size w).alloc (Nat.le_refl _) _).alloc (by simp) _
  have R0 : Row ((w.alloc (.cells #[.int .i64 n, .int .i64 s, .int .i64 lo, .int .i64 hi] 120)).alloc (.cells #[.int .i64 0, .int .i64 0, .int .i64 0, .int .i64 0] 120)) w.heap.size 120 #[.int .i64 n, .int .i64 s, .int .i64 lo, .int .i64 hi] := (Row.new _ _ _).alloc _
  unfold tlV
  dsimp only
  go_enter Tryd.func67, Tryd.ntmps67
  by_cases hn : n = 0
  · subst hn
    go_wp2_with fail
    exact bodyPost_ret (v := .agg #[.int .i64 1, .int .i64 x, .int .i64 x, .int .i64 x]) (by simp [results, Tryd.results67, go_sem]) rfl ⟨by rw [← HR.out]; simp [wth], ((Below.refl w.heap.size w).alloc (Nat.le_refl _) _).alloc (by simp) _⟩
  · have kn : (n == 0) = false := beq_eq_false_iff_ne.2 hn
    have y1 : IntKind.i64.wrap (n + 1) = n + 1 := IntWalk.i64_in _ (by omega)
    have y2 : IntKind.i64.wrap (s + x) = s + x := IntWalk.i64_in _ (by omega)
    go_wp2_with fail
    exact bodyPost_ret (v := .agg #[.int .i64 (n + 1), .int .i64 (s + x), .int .i64 (min lo x), .int .i64 (max hi x)]) (by simp [results, Tryd.results67, go_sem]) rfl ⟨by rw [← HR.out]; simp [wth, hn], ((Below.refl w.heap.size w).alloc (Nat.le_refl _) _).alloc (by simp) _⟩
set_option maxHeartbeats 1000000 in
theorem mean_any (n a lo hi : Int) (w : World) (hn : 1 ≤ n) (hn2 : n ≤ 100000) (h1 : -1100000000 ≤ a) (h2 : a ≤ 1100000000) :
    Calls Tryd.prog 100 #[tlV (n, a, lo, hi)] w fun e w' => e = .returned (.int .i64 (a / n)) ∧ Below w.heap.size w w' := by
  unfold tlV
  dsimp only
  have key : (a.tmod n < 0 → a.tdiv n - 1 = a / n) ∧ (¬ a.tmod n < 0 → a.tdiv n = a / n) := by
    have e := Int.mul_tdiv_add_tmod a n
    have e2 := Int.mul_ediv_add_emod a n
    by_cases h0 : 0 ≤ a
    · have q := Int.tmod_nonneg n h0
      exact ⟨fun h => by omega, fun _ => Int.tdiv_eq_ediv_of_nonneg h0⟩
    · obtain ⟨q1, q2, q3, q4⟩ := tmod_neg h0 hn
      refine ⟨fun h => ?_, fun h => ?_⟩
      · have := q3 h
        refine Int.eq_of_mul_eq_mul_left (a := n) (by omega) ?_
        rw [Int.mul_sub]
        omega
      · have := q4 h
        refine Int.eq_of_mul_eq_mul_left (a := n) (by omega) ?_
        omega
  have bd : -1100000000 ≤ a.tdiv n ∧ a.tdiv n ≤ 1100000000 := by
    have h3 : (a.tdiv n).natAbs = a.natAbs / n.natAbs := Int.natAbs_tdiv a n
    have h4 : a.natAbs / n.natAbs ≤ a.natAbs := Nat.div_le_self _ _
    omega
  have HK := Lib.hid key
  have z0 : ¬ n = 0 := by omega
  have z1 : ¬ n = -1 := by omega
  have y1 : IntKind.i64.wrap (a.tdiv n) = a.tdiv n := IntWalk.i64_in _ (by omega)
  have y2 : IntKind.i64.wrap (a.tdiv n - 1) = a.tdiv n - 1 := IntWalk.i64_in _ (by omega)
  clear key
  by_cases hneg : a.tmod n < 0
  · have H := Lib.hid (HK.out.1 hneg)
    have bm : -100000 ≤ a.tmod n := by
      by_cases h0 : 0 ≤ a
      · have q := Int.tmod_nonneg n h0; omega
      · obtain ⟨q1, -⟩ := tmod_neg h0 hn; omega
    have y3 : IntKind.i64.wrap (a.tmod n) = a.tmod n := IntWalk.i64_in _ (by omega)
    go_enter Tryd.func100, Tryd.ntmps100
    go_wp2_with fail
    go_ret
    exact ⟨ret_i64 H.out, (Below.refl _ _).alloc (Nat.le_refl _) _⟩
  · have H := Lib.hid (HK.out.2 hneg)
    have bm : a.tmod n ≤ 100000 := by
      have q := Int.tmod_lt_of_pos a (show 0 < n by omega)
      omega
    have y3 : IntKind.i64.wrap (a.tmod n) = a.tmod n := IntWalk.i64_in _ (by omega)
    go_enter Tryd.func100, Tryd.ntmps100
    go_wp2_with fail
    go_ret
    exact ⟨ret_i64 H.out, (Below.refl _ _).alloc (Nat.le_refl _) _⟩
set_option maxRecDepth 100000 in
set_option maxHeartbeats 2000000 in
theorem spread_any (n a lo hi : Int) (w : World) (hn : 1 ≤ n) (hn2 : n ≤ 100000) (h1 : -1100000000 ≤ a) (h2 : a ≤ 1100000000) (l1 : -11000 ≤ lo) (l2 : lo ≤ 11000) (m1 : -11000 ≤ hi) (m2 : hi ≤ 11000) :
    Calls Tryd.prog 101 #[tlV (n, a, lo, hi)] w fun e w' => e = .returned (.int .i64 (max (hi - a / n) (a / n - lo))) ∧ Below w.heap.size w w' := by
  obtain ⟨q, hq⟩ : ∃ q, a / n = q := ⟨_, rfl⟩
  have q1 : -1100000000 ≤ q := by
    rw [← hq]
    by_cases h0 : 0 ≤ a
    · have := Int.ediv_nonneg h0 (show 0 ≤ n by omega); omega
    · exact Int.le_ediv_of_mul_le (by omega) (by omega)
  have q2 : q ≤ 1100000000 := by rw [← hq]; exact Int.ediv_le_of_le_mul (by omega) (by omega)
  have HM : Hid (∀ W : World, Calls Tryd.prog 100 #[.agg #[.int .i64 n, .int .i64 a, .int .i64 lo, .int .i64 hi]] W fun e w' => e = .returned (.int .i64 q) ∧ Below W.heap.size W w') := Lib.hid (fun W => by rw [← hq]; exact mean_any n a lo hi W hn hn2 h1 h2)
  rw [hq]
  clear hq h1 h2 hn hn2
  have b0 := (Below.refl w.heap.size w).alloc (Nat.le_refl _) (.cells #[.int .i64 n, .int .i64 a, .int .i64 lo, .int .i64 hi] 120)
  have I0 : Hid (Below w.heap.size w (w.alloc (.cells #[.int .i64 n, .int .i64 a, .int .i64 lo, .int .i64 hi] 120)) ∧ Row (w.alloc (.cells #[.int .i64 n, .int .i64 a, .int .i64 lo, .int .i64 hi] 120)) w.heap.size 120 #[.int .i64 n, .int .i64 a, .int .i64 lo, .int .i64 hi]) := Lib.hid ⟨b0, Row.new _ _ _⟩
  clear b0
  have y1 : IntKind.i64.wrap (hi - q) = hi - q := IntWalk.i64_in _ (by omega)
  have y2 : IntKind.i64.wrap (q - lo) = q - lo := IntWalk.i64_in _ (by omega)
  unfold tlV
  dsimp only
  go_enter Tryd.func101, Tryd.ntmps101
  go_upto_region 1 with fail
  refine forget (fun Y => Hid (Below w.heap.size w Y ∧ Row Y w.heap.size 120 #[.int .i64 n, .int .i64 a, .int .i64 lo, .int .i64 hi])) I0 ?_
  clear I0
  obtain ⟨gt, hgt⟩ : ∃ g, w.heap.size = g := ⟨_, rfl⟩
  rw [hgt]
  have HGT := Lib.hid hgt
  clear hgt
  rintro Y I0
  have HS := Lib.hid (show ∀ Z, Row Z gt 120 #[.int .i64 n, .int .i64 a, .int .i64 lo, .int .i64 hi] → Z.cell? ⟨gt, 0, none⟩ = some (.int .i64 n) ∧ Z.cell? ⟨gt, 1, none⟩ = some (.int .i64 a) ∧ Z.cell? ⟨gt, 2, none⟩ = some (.int .i64 lo) ∧ Z.cell? ⟨gt, 3, none⟩ = some (.int .i64 hi) from fun Z hr => row4 hr)
  refine wp_region_held_drew (S := fun Z : World => Z.cell? ⟨gt, 0, none⟩ = some (.int .i64 n) ∧ Z.cell? ⟨gt, 1, none⟩ = some (.int .i64 a) ∧ Z.cell? ⟨gt, 2, none⟩ = some (.int .i64 lo) ∧ Z.cell? ⟨gt, 3, none⟩ = some (.int .i64 hi)) (by kernel_rfl) (HS.out _ I0.out.2.drew) (fun hHeld => ?_)
  have I2 : Hid (Below gt w Y.drew ∧ Row Y.drew gt 120 #[.int .i64 n, .int .i64 a, .int .i64 lo, .int .i64 hi]) := Lib.hid ⟨I0.out.1.drew, I0.out.2.drew⟩
  clear I0
  generalize Y.drew = X at *
  refine tk 0 (oi := ⟨some 3, _, _, _, _, none⟩) rfl ?_
  try go_frame
  refine tk 1 (oi := ⟨some 4, _, _, _, _, none⟩) rfl ?_
  try go_frame
  refine tk 2 (oi := ⟨some 5, _, _, _, _, none⟩) rfl ?_
  try go_frame
  refine tk 5 (oi := ⟨some 8, _, _, _, _, none⟩) rfl ?_
  try go_frame
  refine tk 7 (oi := ⟨some 10, _, _, _, _, none⟩) rfl ?_
  try go_frame
  refine tk 8 (oi := ⟨some 11, _, _, _, _, none⟩) rfl ?_
  try go_frame
  refine wpAnyH_ready (rs := [3]) (by kernel_rfl) (by simp) ?_
  refine AllReadyH.cons (o := ⟨some 6, _, _, _, _, none⟩) rfl (fun K hK => ?_) AllReadyH.nil
  go_simp
  refine (HM.out _).mono ?_
  rintro e X2 ⟨rfl, g2⟩
  go_wp2_with fail
  have I3 := Lib.hid (And.intro (I2.out.1.trans (g2.mono (by have h1 := HGT.out; have h2 := I2.out.1.size; omega))) (I2.out.2.under g2))
  clear g2 I2 hHeld
  refine hK.out _ _ (HS.out _ I3.out.2) (fun hHeld => ?_)
  clear hK K
  try simp only [Act.put, List.setIfInBounds_toArray, List.set_cons_zero, List.set_cons_succ]
  refine tk 4 (oi := ⟨some 7, _, _, _, _, none⟩) rfl ?_
  try go_frame
  refine wpAnyH_ready (rs := [6]) (by kernel_rfl) (by simp) ?_
  refine AllReadyH.cons (o := ⟨some 9, _, _, _, _, none⟩) rfl (fun K hK => ?_) AllReadyH.nil
  go_simp
  refine (HM.out _).mono ?_
  rintro e X3 ⟨rfl, g2⟩
  go_wp2_with fail
  have I4 := Lib.hid (And.intro (I3.out.1.trans (g2.mono (by have h1 := HGT.out; have h2 := I3.out.1.size; omega))) (I3.out.2.under g2))
  clear g2 I3 hHeld
  refine hK.out _ _ (HS.out _ I4.out.2) (fun hHeld => ?_)
  clear hK K
  try simp only [Act.put, List.setIfInBounds_toArray, List.set_cons_zero, List.set_cons_succ]
  refine tk 9 (oi := ⟨some 12, _, _, _, _, none⟩) rfl ?_
  try go_frame
  refine tk 10 (oi := ⟨some 13, _, _, _, _, none⟩) rfl ?_
  try go_frame
  refine tk 11 (oi := ⟨some 2, _, _, _, _, none⟩) rfl ?_
  try go_frame
  refine wpAnyH_done (by kernel_rfl) ?_ _
  go_wp2_with fail
  go_ret
  exact ⟨rfl, by have h9 := I4.out.1; rw [← HGT.out] at h9; exact h9⟩
end Go.Proofs.YtlakgkoohdfiaaaDoor
