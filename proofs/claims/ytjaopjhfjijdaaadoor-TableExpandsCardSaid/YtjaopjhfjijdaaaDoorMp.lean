/- Maps keyed by numbers that a call makes: what stands at each key, and how many there are; the maps of entries and of sequences. -/
import Derived.Test.YtjaopjhfjijdaaaDoorIxS
import Derived.Maps.OwnSet
namespace Go.Proofs.YtjaopjhfjijdaaaDoor
open Go.RowKit Go.Maps

theorem i64_wf {n : Int} (h : I64 n) : (Lit.int .i64 n).wf = true := WalkArith.wf_i64 (by obtain ⟨a, b⟩ := h; omega)
theorem law3 : Keyed Tryd.prog 3 := int_keyed Tryd.underlying3
/-- An element reads as itself. -/
def MpR : Value → Option (DataW Value × List MemPlace) := fun v => some (.held v, [])
/-- Block b is a map of s entries (at most n) that has f of each key. -/
def Mp (w : World) (b n : Nat) (f : Int → Option Value) (s : Nat) : Prop :=
  ∃ D : DataW Value, w.ownsMap Tryd.prog 3 MpR b n D ∧ Maps.size D = s ∧ ∀ k, Maps.has D (.int .i64 k) = (f k).isSome ∧ ∀ z, D.atKey (.int .i64 k) (.held z) = .held ((f k).getD z)
theorem Mp.made (w : World) : Mp (w.alloc (.map #[] 0)) w.heap.size 0 (fun _ => Option.none) 0 :=
  ⟨.map [], World.ownsMap_made _ _ _ _, rfl, fun _ => ⟨rfl, fun _ => rfl⟩⟩
theorem Mp.lt {w : World} {b n s : Nat} {f : Int → Option Value} (h : Mp w b n f s) : b < w.heap.size := by
  obtain ⟨D, h, -⟩ := h
  exact h.lt
theorem Mp.kept {w w' : World} {b n s : Nat} {f : Int → Option Value} {row : Option Nat} (h : Mp w b n f s) (hg : w.grownBy w' row) (hne : some b ≠ row) : Mp w' b n f s := by
  obtain ⟨D, h, r⟩ := h
  exact ⟨D, h.kept hg hne, r⟩
theorem Mp.under {w w' : World} {b n s : Nat} {f : Int → Option Value} (h : Mp w b n f s) (hb : Below w.heap.size w w') : Mp w' b n f s := h.kept (row := none) (grown_below hb) (by simp)
/-- The block of a map is no row of cells. -/
theorem Mp.ne {w : World} {b n s g : Nat} {f : Int → Option Value} {t : TypeId} {cs : Array Value} (h : Mp w b n f s) (hr : Row w g t cs) : b ≠ g := by
  rintro rfl
  obtain ⟨D, ⟨es, clock, hb, -⟩, -⟩ := h
  unfold Row at hr
  rw [hb] at hr
  cases hr
theorem Mp.ne_own {w : World} {b n s : Nat} {f : Int → Option Value} (h : Mp w b n f s) {base size k : Nat} {e : TypeId} {v : Value} {xs : List Value} (ho : w.ownsRow base e size v k xs) : some b ≠ v.ownBlock := by
  rcases ho.2 with ⟨rfl, _⟩ | ⟨g', cap, cur, rfl, _, hh, _⟩
  · simp [Value.ownBlock]
  · intro he
    have e : b = g' := by simpa [Value.ownBlock] using he
    subst e
    obtain ⟨D, ⟨es, clock, hb, -⟩, -⟩ := h
    rw [hb] at hh
    cases hh
section
variable (w : World) {ops : Array Oper} {rest : List Oper} {o : Oper} {a : Act} {Q : Exit → Act → World → Prop}
theorem wpList_mapUpdate_mp (hg : o.guard = Option.none) (m x v : Operand) (t : TypeId) (hop : o.op = Op.mapUpdate t m x v) (e : TypeId) (ht : Tryd.prog.underlying t = some (.map 3 e)) (b n s : Nat) (f : Int → Option Value)
    (hm : a.eval m = .map (some b)) (hown : Mp w b n f s) (hn : n < maxLen) (key : Int) (val : Value) (hx : a.eval x = .int .i64 key) (hv : a.eval v = val) (hk : I64 key)
    (hK : ∀ w', Mp w' b (n + 1) (fun k => if k = key then some val else f k) (if (f key).isSome then s else s + 1) → w.grownBy w' (some b) → wpList Tryd.prog ops Q rest (a.put o.dst undef) w') :
    wpList Tryd.prog ops Q (o :: rest) a w := by
  obtain ⟨D, h1, h2, h3⟩ := hown
  refine wpList_mapUpdate_own w hg m x v t hop 3 e law3 ht MpR b n D hm h1 hn (.int .i64 key) val (.int .i64 key) hx hv (keyOf_int_mk Tryd.underlying3 (i64_wf hk)) (.held val) [] rfl (fun w' ho hgr => hK w' ⟨D.put (.int .i64 key) (.held val), ho, ?_, fun k => ?_⟩ hgr)
  · rw [size_put (h1.tidy law3), (h3 key).1, h2]
  · by_cases e : k = key
    · subst e
      have kk : WideAt.IsKeyLit (Lit.int .i64 k) := trivial
      simp only [if_true]
      rw [has_put_same h1.isMap kk]
      exact ⟨rfl, fun z => by rw [atKey_put_same h1.isMap kk]; rfl⟩
    · have hne : (Lit.int .i64 k) ≠ .int .i64 key := fun q => e (by injection q)
      simp only [if_neg e]
      rw [has_put_other hne]
      exact ⟨(h3 k).1, fun z => by rw [atKey_put_other hne]; exact (h3 k).2 z⟩
theorem wpList_len_mp (hg : o.guard = Option.none) (m : Operand) (t : TypeId) (hop : o.op = Op.call { callee := Callee.builtin Builtin.len, args := #[m], argTypes := #[t] }) (e : TypeId) (ht : Tryd.prog.underlying t = some (.map 3 e)) (b n s : Nat) (f : Int → Option Value)
    (hm : a.eval m = .map (some b)) (hown : Mp w b n f s) (hK : wpList Tryd.prog ops Q rest (a.put o.dst (.int .i64 s)) w) :
    wpList Tryd.prog ops Q (o :: rest) a w := by
  obtain ⟨D, h1, h2, h3⟩ := hown
  exact wpList_len_own w hg m t hop 3 e ht MpR b n D hm h1 (by rw [h2]; exact hK)
theorem Mp.run_len {w : World} {b n s : Nat} {f : Int → Option Value} (h : Mp w b n f s) {t e : TypeId} (ht : Tryd.prog.underlying t = some (.map 3 e)) (ty : TypeId) : (Builtin.len_ #[t] ty #[.map (some b)]).run Tryd.prog w = .ok (.int .i64 s) w := by
  obtain ⟨D, h1, h2, h3⟩ := h
  rw [← h2]
  exact h1.len ht ty
theorem Mp.run_look {w : World} {b n s : Nat} {f : Int → Option Value} (h : Mp w b n f s) {t e : TypeId} (ht : Tryd.prog.underlying t = some (.map 3 e)) {z : Value} (hz : (zeroValue e).run Tryd.prog w = .ok z w) {key : Int} (hk : I64 key) :
    (Instr.lookup t (.map (some b)) (.int .i64 key) true).run Tryd.prog w = .ok (.tuple #[(f key).getD z, .bool (f key).isSome]) w := by
  obtain ⟨D, h1, h2, h3⟩ := h
  obtain ⟨v, ps, hrun, hv⟩ := h1.look_ok law3 ht hz (zd := .held z) (zp := []) rfl (keyOf_int_mk Tryd.underlying3 (i64_wf hk))
  rw [hrun, (h3 key).1]
  have e : v = (f key).getD z := by
    have hv1 := (Prod.mk.inj (Option.some.inj hv)).1
    rw [(h3 key).2 z] at hv1
    exact DataW.held.inj hv1
  rw [e]
end
/-- What stands in the map of entries, of sequences. -/
def EnF (L : List En) (f : Int → Option Value) : Prop := ∀ key, (f key = Option.none → ∀ e ∈ L, e.1 ≠ key) ∧ ∀ v, f key = some v → ∃ e ∈ L, e.1 = key ∧ v = enV e
def SqF (w : World) (L : List Sq) (f : Int → Option Value) : Prop := ∀ key, (f key = Option.none → ∀ s ∈ L, s.1 ≠ key) ∧ ∀ v, f key = some v → ∃ s ∈ L, s.1 = key ∧ ∃ u, v = .agg #[.int .i64 key, u] ∧ NmIn w u s.2
theorem SqF.under {w w' : World} {L : List Sq} {f : Int → Option Value} (h : SqF w L f) (hb : Below w.heap.size w w') : SqF w' L f := fun key => ⟨(h key).1, fun v hv => by
  obtain ⟨s, hs, e, u, hu, hn⟩ := (h key).2 v hv
  exact ⟨s, hs, e, u, hu, hn.under hb⟩⟩
theorem EnF.step {L : List En} {f : Int → Option Value} (h : EnF L f) (e : En) : EnF (L ++ [e]) (fun k => if k = e.1 then some (enV e) else f k) := fun key => by
  by_cases q : key = e.1
  · refine ⟨fun h => ?_, fun v hv => ?_⟩
    · dsimp only at h; rw [if_pos q] at h; cases h
    · dsimp only at hv; rw [if_pos q] at hv; exact ⟨e, by simp, q.symm, (Option.some.inj hv).symm⟩
  · refine ⟨fun hn x hx => ?_, fun v hv => ?_⟩
    · dsimp only at hn
      rw [if_neg q] at hn
      rcases List.mem_append.1 hx with hx | hx
      · exact (h key).1 hn x hx
      · rw [List.mem_singleton.1 hx]
        exact fun e => q e.symm
    · dsimp only at hv
      rw [if_neg q] at hv
      obtain ⟨x, hx, r⟩ := (h key).2 v hv
      exact ⟨x, List.mem_append.2 (.inl hx), r⟩
theorem SqF.step {w : World} {L : List Sq} {f : Int → Option Value} (h : SqF w L f) (s : Sq) (u : Value) (hu : NmIn w u s.2) : SqF w (L ++ [s]) (fun k => if k = s.1 then some (.agg #[.int .i64 s.1, u]) else f k) := fun key => by
  by_cases q : key = s.1
  · refine ⟨fun h => ?_, fun v hv => ?_⟩
    · dsimp only at h; rw [if_pos q] at h; cases h
    · dsimp only at hv; rw [if_pos q] at hv; exact ⟨s, by simp, q.symm, u, by rw [q]; exact (Option.some.inj hv).symm, hu⟩
  · refine ⟨fun hn x hx => ?_, fun v hv => ?_⟩
    · dsimp only at hn
      rw [if_neg q] at hn
      rcases List.mem_append.1 hx with hx | hx
      · exact (h key).1 hn x hx
      · rw [List.mem_singleton.1 hx]
        exact fun e => q e.symm
    · dsimp only at hv
      rw [if_neg q] at hv
      obtain ⟨x, hx, r⟩ := (h key).2 v hv
      exact ⟨x, List.mem_append.2 (.inl hx), r⟩
/-- How many: at most as many as there are codes, and as many just if none stands twice. -/
def Num (C : List Int) (s : Nat) : Prop := s ≤ C.length ∧ (s = C.length ↔ C.Nodup)
theorem Num.step {C : List Int} {s : Nat} (h : Num C s) (c : Int) {p : Bool} (hp : p = true ↔ c ∈ C) : Num (C ++ [c]) (if p then s else s + 1) := by
  obtain ⟨h1, h2⟩ := h
  have hn : (C ++ [c]).Nodup ↔ C.Nodup ∧ c ∉ C := by
    rw [List.nodup_append]
    constructor
    · rintro ⟨a, -, b⟩; exact ⟨a, fun hc => b c hc c (by simp) rfl⟩
    · rintro ⟨a, b⟩; exact ⟨a, by simp, fun x hx y hy e => by obtain rfl := List.mem_singleton.1 hy; exact b (e ▸ hx)⟩
  unfold Num
  rw [hn, List.length_append, List.length_singleton]
  cases p with
  | true =>
    have hc := hp.1 rfl
    rw [if_pos rfl]
    exact ⟨by omega, fun e => by omega, fun e => absurd hc e.2⟩
  | false =>
    have hc : c ∉ C := fun q => by have := hp.2 q; cases this
    rw [if_neg (by decide)]
    exact ⟨by omega, fun e => ⟨h2.1 (by omega), hc⟩, fun e => by rw [h2.2 e.1]⟩
theorem EnF.isSome {L : List En} {f : Int → Option Value} (h : EnF L f) (c : Int) : (f c).isSome = true ↔ c ∈ L.map (·.1) := by
  constructor
  · intro hs
    obtain ⟨v, hv⟩ := Option.isSome_iff_exists.1 hs
    obtain ⟨e, he, rfl, -⟩ := (h c).2 v hv
    exact List.mem_map_of_mem he
  · intro hc
    obtain ⟨e, he, rfl⟩ := List.mem_map.1 hc
    cases hf : f e.1 with
    | none => exact absurd rfl ((h e.1).1 hf e he)
    | some v => rfl
theorem SqF.isSome {w : World} {L : List Sq} {f : Int → Option Value} (h : SqF w L f) (c : Int) : (f c).isSome = true ↔ c ∈ L.map (·.1) := by
  constructor
  · intro hs
    obtain ⟨v, hv⟩ := Option.isSome_iff_exists.1 hs
    obtain ⟨e, he, rfl, -⟩ := (h c).2 v hv
    exact List.mem_map_of_mem he
  · intro hc
    obtain ⟨e, he, rfl⟩ := List.mem_map.1 hc
    cases hf : f e.1 with
    | none => exact absurd rfl ((h e.1).1 hf e he)
    | some v => rfl
theorem take_snoc {α : Type} {L : List α} {k : Nat} (h : k < L.length) : L.take (k + 1) = L.take k ++ [L[k]] := by rw [List.take_add_one, List.getElem?_eq_getElem h]; rfl
end Go.Proofs.YtjaopjhfjijdaaaDoor
