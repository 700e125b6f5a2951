/- Maps whose keys are a name and a number. -/
import Derived.Test.YtlakgkoohdfiaaaDoorQaa
import Derived.DeepKeys4
import Derived.Maps.OwnSet
import Derived.Maps.RangeWalk
import Derived.WideKeyEntry
namespace Go.Proofs.YtlakgkoohdfiaaaDoor.Tm
open Go.RowKit Go.Maps Go.ChangeMaps

theorem laidOutK : laidOutB Tryd.prog = true := by kernel_rfl
theorem cells1 : Tryd.prog.cellsOf 3 = 1 := by kernel_rfl
theorem wf64 {x : Int} (h : I64 x) : (Lit.int .i64 x).wf = true := by
  have e1 : IntKind.i64.min = -9223372036854775808 := by decide
  have e2 : IntKind.i64.max = 9223372036854775807 := by decide
  obtain ⟨h1, h2⟩ := h
  simp only [Lit.wf, e1, e2, Bool.and_eq_true, decide_eq_true_eq]
  exact ⟨h1, h2⟩
/-- An element reads as itself. -/
def MsR : Value → Option (DataW Value × List MemPlace) := fun v => some (.held v, [])
theorem cellsS1 : Tryd.prog.cellsOf 9 = 1 := by kernel_rfl
/-- A name and a number. -/
abbrev Ke := ByteArray × Int
def keV (k : Ke) : Value := .agg #[.string k.1, .int .i64 k.2]
def KeOk (k : Ke) : Prop := k.1.size ≤ maxLen ∧ I64 k.2
namespace Mo
theorem klaw : WideMaps.KeyLaw Tryd.prog 179 :=
  deep_law_laid (m := 2) laidOutK (by decide) (of_decide_eq_true (by kernel_rfl)) (by kernel_rfl) (by kernel_rfl)
theorem law : Keyed Tryd.prog 179 := Keyed.of_law klaw
theorem keyT : Tryd.prog.keyType 179 = true := by kernel_rfl
theorem cellsT : Tryd.prog.cellsOf 179 = 2 := by kernel_rfl
set_option maxRecDepth 100000 in
theorem key_some {k : Ke} (h : KeOk k) : ∃ l, keyOf Tryd.prog 179 (keV k) = some l := by
  have hts : ∃ d, Tryd.prog.types.size = d + 1 := ⟨Tryd.prog.types.size - 1, by have : 0 < Tryd.prog.types.size := of_decide_eq_true (by kernel_rfl); omega⟩
  obtain ⟨d, hd⟩ := hts
  obtain ⟨w1, w2⟩ := h
  have w2 := wf64 w2
  have e1 : ∀ x, (Lit.int .i64 x).wf = true → Tryd.prog.keyLits (d + 1) 3 [.int .i64 x] = some [.int .i64 x] := fun x hx => by
    unfold Program.keyLits
    rw [Tryd.underlying3]
    simp [hx]
  have e2 : ∀ x : ByteArray, x.size ≤ maxLen → Tryd.prog.keyLits (d + 1) 9 [.string x] = some [.string x.data.toList] := fun x hx => by
    unfold Program.keyLits
    rw [Tryd.underlying9]
    simp [hx]
  unfold keyOf
  rw [Tryd.underlying179]
  simp only [keyT, Bool.true_and]
  have hform : Value.formed Tryd.prog 179 (keV k) = true := by
    unfold Value.formed keV
    rw [Tryd.underlying179, cellsT]
    rfl
  rw [hform, if_pos rfl, hd]
  unfold Program.keyLits keV
  rw [Tryd.underlying179]
  simp only [cellsT, Value.cells]
  rw [if_pos ⟨rfl, by first | decide | simp⟩]
  simp [cells1, cellsS1, e1, e2, w1, w2]
noncomputable def nk (k : Ke) : Lit := (keyOf Tryd.prog 179 (keV k)).getD (.bool false)
set_option maxRecDepth 100000 in
theorem nk_of {k : Ke} (h : KeOk k) : keyOf Tryd.prog 179 (keV k) = some (nk k) := by
  obtain ⟨l, hl⟩ := key_some h
  unfold nk
  rw [hl]; rfl
set_option maxRecDepth 100000 in
theorem nk_inj {k k' : Ke} (h : KeOk k) (h' : KeOk k') (e : nk k = nk k') : k = k' := by
  have e1 := law.inj (nk_of h) (e ▸ nk_of h')
  unfold keV at e1
  injection e1 with e1
  simp at e1
  exact Prod.ext e1.1 e1.2
set_option maxRecDepth 100000 in
theorem nk_key {k : Ke} (h : KeOk k) : WideAt.IsKeyLit (nk k) := law.key (nk_of h)
set_option maxRecDepth 100000 in
theorem nk_inv {key : Value} {kl : Lit} (h : keyOf Tryd.prog 179 key = some kl) : ∃ k : Ke, key = keV k ∧ kl = nk k ∧ KeOk k := by
  have h9 := h
  unfold keyOf at h
  rw [Tryd.underlying179] at h
  simp only [keyT, Bool.true_and] at h
  by_cases hf : Value.formed Tryd.prog 179 key = true
  · rw [if_pos hf] at h
    have one : ∀ (d : Nat) (v : Value) (ls : List Lit), Tryd.prog.keyLits (d + 1) 3 [v] = some ls → ∃ x, v = .int .i64 x ∧ I64 x := by
      intro d v ls hl
      unfold Program.keyLits at hl
      rw [Tryd.underlying3] at hl
      cases v <;> simp at hl
      obtain ⟨⟨rfl, hw⟩, -⟩ := hl
      have e1 : IntKind.i64.min = -9223372036854775808 := by decide
      have e2 : IntKind.i64.max = 9223372036854775807 := by decide
      simp only [Lit.wf, e1, e2, Bool.and_eq_true, decide_eq_true_eq] at hw
      exact ⟨_, rfl, hw⟩
    have two : ∀ (d : Nat) (v : Value) (ls : List Lit), Tryd.prog.keyLits (d + 1) 9 [v] = some ls → ∃ x, v = .string x ∧ x.size ≤ maxLen := by
      intro d v ls hl
      unfold Program.keyLits at hl
      rw [Tryd.underlying9] at hl
      cases v <;> simp at hl
      exact ⟨_, rfl, hl.1⟩
    have hts : ∃ d, Tryd.prog.types.size = d + 1 := ⟨Tryd.prog.types.size - 1, by have : 0 < Tryd.prog.types.size := of_decide_eq_true (by kernel_rfl); omega⟩
    obtain ⟨d, hd⟩ := hts
    rw [hd] at h
    cases key <;> simp [Value.formed, Tryd.underlying179, cellsT] at hf
    rename_i cs
    obtain ⟨a, b, rfl⟩ : ∃ a b, cs = #[a, b] := by
      rcases cs with ⟨l⟩
      match l, hf with
      | [a, b], _ => exact ⟨a, b, rfl⟩
    unfold Program.keyLits at h
    rw [Tryd.underlying179] at h
    simp only [cellsT, Value.cells] at h
    rw [if_pos ⟨rfl, by first | decide | simp⟩] at h
    simp [cells1, cellsS1, Option.bind_eq_some_iff] at h
    obtain ⟨la, ha, _, ⟨lb, hb, -⟩, -⟩ := h
    obtain ⟨x, rfl, hx⟩ := two d a la ha
    obtain ⟨y, rfl, hy⟩ := one d b lb hb
    have hok : KeOk (x, y) := ⟨hx, hy⟩
    exact ⟨(x, y), rfl, Option.some.inj (h9.symm.trans (nk_of hok)), hok⟩
  · rw [if_neg (by simpa using hf)] at h; cases h
/-- Block b is a map of at most n keys that has f of each. -/
def Ms (w : World) (b n : Nat) (f : Ke → Option Value) : Prop :=
  ∃ D : DataW Value, w.ownsMap Tryd.prog 179 MsR b n D ∧ ∀ k, KeOk k → Maps.has D (nk k) = (f k).isSome ∧ ∀ z, D.atKey (nk k) (.held z) = .held ((f k).getD z)
theorem Ms.made (w : World) : Ms (w.alloc (.map #[] 0)) w.heap.size 0 (fun _ => none) :=
  ⟨.map [], World.ownsMap_made _ _ _ _, fun _ _ => ⟨rfl, fun _ => rfl⟩⟩
theorem Ms.lt {w : World} {b n : Nat} {f : Ke → Option Value} (h : Ms w b n f) : b < w.heap.size := by
  obtain ⟨D, h, -⟩ := h
  exact h.lt
theorem Ms.kept {w w' : World} {b n : Nat} {f : Ke → Option Value} {row : Option Nat} (h : Ms w b n f) (hg : w.grownBy w' row) (hne : some b ≠ row) : Ms w' b n f := by
  obtain ⟨D, h, r⟩ := h
  exact ⟨D, h.kept hg hne, r⟩
theorem Ms.ne_own {w : World} {b n : Nat} {f : Ke → Option Value} (h : Ms w b n f) {base size k : Nat} {e : TypeId} {v : Value} {xs : List Value} (ho : w.ownsRow base e size v k xs) : some b ≠ v.ownBlock := by
  rcases ho.2 with ⟨rfl, _⟩ | ⟨g', cap, cur, rfl, _, hh, _⟩
  · simp [Value.ownBlock]
  · intro he
    have e : b = g' := by simpa [Value.ownBlock] using he
    subst e
    obtain ⟨D, ⟨es, clock, hb, -⟩, -⟩ := h
    rw [hb] at hh
    cases hh
theorem Ms.ne_row {w : World} {b n g : Nat} {f : Ke → Option Value} {t : TypeId} {cs : Array Value} (h : Ms w b n f) (hr : Row w g t cs) : b ≠ g := by
  rintro rfl
  obtain ⟨D, ⟨es, clock, hb, -⟩, -⟩ := h
  unfold Row at hr
  rw [hb] at hr
  cases hr
set_option maxRecDepth 100000 in
/-- 'm[k]'. -/
theorem Ms.look {w : World} {b n : Nat} {f : Ke → Option Value} (h : Ms w b n f) {t e : TypeId} (ht : Tryd.prog.underlying t = some (.map 179 e)) {z : Value} (hz : (zeroValue e).run Tryd.prog w = .ok z w) {key : Ke} (hk : KeOk key) :
    (Instr.lookup t (.map (some b)) (keV key) false).run Tryd.prog w = .ok ((f key).getD z) w := by
  obtain ⟨D, h1, h2⟩ := h
  obtain ⟨v, ps, hrun, hv⟩ := h1.lookup law ht hz (zd := .held z) (zp := []) rfl (nk_of hk)
  have hv1 := (Prod.mk.inj (Option.some.inj hv)).1
  rw [(h2 key hk).2 z] at hv1
  rw [hrun, DataW.held.inj hv1]
set_option maxRecDepth 100000 in
/-- 'm[k] = v'. -/
theorem Ms.update {w : World} {b n : Nat} {f : Ke → Option Value} (h : Ms w b n f) {t e : TypeId} (ht : Tryd.prog.underlying t = some (.map 179 e)) (hn : n < maxLen) {key : Ke} (hk : KeOk key) (val : Value) :
    ∃ w', (Instr.mapUpdate t (.map (some b)) (keV key) val).run Tryd.prog w = .ok () w' ∧ Ms w' b (n + 1) (fun k => if k = key then some val else f k) ∧ w.grownBy w' (some b) := by
  obtain ⟨D, h1, h2⟩ := h
  obtain ⟨w', hrun, ho, hg⟩ := h1.update law ht hn (key := keV key) (val := val) (kl := nk key) (d := .held val) (ps := []) (nk_of hk) rfl
  refine ⟨w', hrun, ⟨_, ho, fun k hok => ?_⟩, hg⟩
  by_cases e : k = key
  · subst e
    dsimp only
    rw [if_pos rfl, has_put_same h1.isMap (nk_key hok)]
    exact ⟨rfl, fun z => by rw [atKey_put_same h1.isMap (nk_key hok)]; rfl⟩
  · have hne : nk k ≠ nk key := fun q => e (nk_inj hok hk q)
    dsimp only
    rw [if_neg e, has_put_other hne]
    exact ⟨(h2 k hok).1, fun z => by rw [atKey_put_other hne]; exact (h2 k hok).2 z⟩
end Mo
namespace Ow
theorem klaw : WideMaps.KeyLaw Tryd.prog 132 :=
  deep_law_laid (m := 2) laidOutK (by decide) (of_decide_eq_true (by kernel_rfl)) (by kernel_rfl) (by kernel_rfl)
theorem law : Keyed Tryd.prog 132 := Keyed.of_law klaw
theorem keyT : Tryd.prog.keyType 132 = true := by kernel_rfl
theorem cellsT : Tryd.prog.cellsOf 132 = 2 := by kernel_rfl
set_option maxRecDepth 100000 in
theorem key_some {k : Ke} (h : KeOk k) : ∃ l, keyOf Tryd.prog 132 (keV k) = some l := by
  have hts : ∃ d, Tryd.prog.types.size = d + 1 := ⟨Tryd.prog.types.size - 1, by have : 0 < Tryd.prog.types.size := of_decide_eq_true (by kernel_rfl); omega⟩
  obtain ⟨d, hd⟩ := hts
  obtain ⟨w1, w2⟩ := h
  have w2 := wf64 w2
  have e1 : ∀ x, (Lit.int .i64 x).wf = true → Tryd.prog.keyLits (d + 1) 3 [.int .i64 x] = some [.int .i64 x] := fun x hx => by
    unfold Program.keyLits
    rw [Tryd.underlying3]
    simp [hx]
  have e2 : ∀ x : ByteArray, x.size ≤ maxLen → Tryd.prog.keyLits (d + 1) 9 [.string x] = some [.string x.data.toList] := fun x hx => by
    unfold Program.keyLits
    rw [Tryd.underlying9]
    simp [hx]
  unfold keyOf
  rw [Tryd.underlying132]
  simp only [keyT, Bool.true_and]
  have hform : Value.formed Tryd.prog 132 (keV k) = true := by
    unfold Value.formed keV
    rw [Tryd.underlying132, cellsT]
    rfl
  rw [hform, if_pos rfl, hd]
  unfold Program.keyLits keV
  rw [Tryd.underlying132]
  simp only [cellsT, Value.cells]
  rw [if_pos ⟨rfl, by first | decide | simp⟩]
  simp [cells1, cellsS1, e1, e2, w1, w2]
noncomputable def nk (k : Ke) : Lit := (keyOf Tryd.prog 132 (keV k)).getD (.bool false)
set_option maxRecDepth 100000 in
theorem nk_of {k : Ke} (h : KeOk k) : keyOf Tryd.prog 132 (keV k) = some (nk k) := by
  obtain ⟨l, hl⟩ := key_some h
  unfold nk
  rw [hl]; rfl
set_option maxRecDepth 100000 in
theorem nk_inj {k k' : Ke} (h : KeOk k) (h' : KeOk k') (e : nk k = nk k') : k = k' := by
  have e1 := law.inj (nk_of h) (e ▸ nk_of h')
  unfold keV at e1
  injection e1 with e1
  simp at e1
  exact Prod.ext e1.1 e1.2
set_option maxRecDepth 100000 in
theorem nk_key {k : Ke} (h : KeOk k) : WideAt.IsKeyLit (nk k) := law.key (nk_of h)
set_option maxRecDepth 100000 in
theorem nk_inv {key : Value} {kl : Lit} (h : keyOf Tryd.prog 132 key = some kl) : ∃ k : Ke, key = keV k ∧ kl = nk k ∧ KeOk k := by
  have h9 := h
  unfold keyOf at h
  rw [Tryd.underlying132] at h
  simp only [keyT, Bool.true_and] at h
  by_cases hf : Value.formed Tryd.prog 132 key = true
  · rw [if_pos hf] at h
    have one : ∀ (d : Nat) (v : Value) (ls : List Lit), Tryd.prog.keyLits (d + 1) 3 [v] = some ls → ∃ x, v = .int .i64 x ∧ I64 x := by
      intro d v ls hl
      unfold Program.keyLits at hl
      rw [Tryd.underlying3] at hl
      cases v <;> simp at hl
      obtain ⟨⟨rfl, hw⟩, -⟩ := hl
      have e1 : IntKind.i64.min = -9223372036854775808 := by decide
      have e2 : IntKind.i64.max = 9223372036854775807 := by decide
      simp only [Lit.wf, e1, e2, Bool.and_eq_true, decide_eq_true_eq] at hw
      exact ⟨_, rfl, hw⟩
    have two : ∀ (d : Nat) (v : Value) (ls : List Lit), Tryd.prog.keyLits (d + 1) 9 [v] = some ls → ∃ x, v = .string x ∧ x.size ≤ maxLen := by
      intro d v ls hl
      unfold Program.keyLits at hl
      rw [Tryd.underlying9] at hl
      cases v <;> simp at hl
      exact ⟨_, rfl, hl.1⟩
    have hts : ∃ d, Tryd.prog.types.size = d + 1 := ⟨Tryd.prog.types.size - 1, by have : 0 < Tryd.prog.types.size := of_decide_eq_true (by kernel_rfl); omega⟩
    obtain ⟨d, hd⟩ := hts
    rw [hd] at h
    cases key <;> simp [Value.formed, Tryd.underlying132, cellsT] at hf
    rename_i cs
    obtain ⟨a, b, rfl⟩ : ∃ a b, cs = #[a, b] := by
      rcases cs with ⟨l⟩
      match l, hf with
      | [a, b], _ => exact ⟨a, b, rfl⟩
    unfold Program.keyLits at h
    rw [Tryd.underlying132] at h
    simp only [cellsT, Value.cells] at h
    rw [if_pos ⟨rfl, by first | decide | simp⟩] at h
    simp [cells1, cellsS1, Option.bind_eq_some_iff] at h
    obtain ⟨la, ha, _, ⟨lb, hb, -⟩, -⟩ := h
    obtain ⟨x, rfl, hx⟩ := two d a la ha
    obtain ⟨y, rfl, hy⟩ := one d b lb hb
    have hok : KeOk (x, y) := ⟨hx, hy⟩
    exact ⟨(x, y), rfl, Option.some.inj (h9.symm.trans (nk_of hok)), hok⟩
  · rw [if_neg (by simpa using hf)] at h; cases h
/-- Block b is a map of at most n keys that has f of each. -/
def Ms (w : World) (b n : Nat) (f : Ke → Option Value) : Prop :=
  ∃ D : DataW Value, w.ownsMap Tryd.prog 132 MsR b n D ∧ ∀ k, KeOk k → Maps.has D (nk k) = (f k).isSome ∧ ∀ z, D.atKey (nk k) (.held z) = .held ((f k).getD z)
theorem Ms.made (w : World) : Ms (w.alloc (.map #[] 0)) w.heap.size 0 (fun _ => none) :=
  ⟨.map [], World.ownsMap_made _ _ _ _, fun _ _ => ⟨rfl, fun _ => rfl⟩⟩
theorem Ms.lt {w : World} {b n : Nat} {f : Ke → Option Value} (h : Ms w b n f) : b < w.heap.size := by
  obtain ⟨D, h, -⟩ := h
  exact h.lt
theorem Ms.kept {w w' : World} {b n : Nat} {f : Ke → Option Value} {row : Option Nat} (h : Ms w b n f) (hg : w.grownBy w' row) (hne : some b ≠ row) : Ms w' b n f := by
  obtain ⟨D, h, r⟩ := h
  exact ⟨D, h.kept hg hne, r⟩
theorem Ms.ne_own {w : World} {b n : Nat} {f : Ke → Option Value} (h : Ms w b n f) {base size k : Nat} {e : TypeId} {v : Value} {xs : List Value} (ho : w.ownsRow base e size v k xs) : some b ≠ v.ownBlock := by
  rcases ho.2 with ⟨rfl, _⟩ | ⟨g', cap, cur, rfl, _, hh, _⟩
  · simp [Value.ownBlock]
  · intro he
    have e : b = g' := by simpa [Value.ownBlock] using he
    subst e
    obtain ⟨D, ⟨es, clock, hb, -⟩, -⟩ := h
    rw [hb] at hh
    cases hh
theorem Ms.ne_row {w : World} {b n g : Nat} {f : Ke → Option Value} {t : TypeId} {cs : Array Value} (h : Ms w b n f) (hr : Row w g t cs) : b ≠ g := by
  rintro rfl
  obtain ⟨D, ⟨es, clock, hb, -⟩, -⟩ := h
  unfold Row at hr
  rw [hb] at hr
  cases hr
set_option maxRecDepth 100000 in
/-- 'm[k]'. -/
theorem Ms.look {w : World} {b n : Nat} {f : Ke → Option Value} (h : Ms w b n f) {t e : TypeId} (ht : Tryd.prog.underlying t = some (.map 132 e)) {z : Value} (hz : (zeroValue e).run Tryd.prog w = .ok z w) {key : Ke} (hk : KeOk key) :
    (Instr.lookup t (.map (some b)) (keV key) false).run Tryd.prog w = .ok ((f key).getD z) w := by
  obtain ⟨D, h1, h2⟩ := h
  obtain ⟨v, ps, hrun, hv⟩ := h1.lookup law ht hz (zd := .held z) (zp := []) rfl (nk_of hk)
  have hv1 := (Prod.mk.inj (Option.some.inj hv)).1
  rw [(h2 key hk).2 z] at hv1
  rw [hrun, DataW.held.inj hv1]
set_option maxRecDepth 100000 in
/-- 'm[k] = v'. -/
theorem Ms.update {w : World} {b n : Nat} {f : Ke → Option Value} (h : Ms w b n f) {t e : TypeId} (ht : Tryd.prog.underlying t = some (.map 132 e)) (hn : n < maxLen) {key : Ke} (hk : KeOk key) (val : Value) :
    ∃ w', (Instr.mapUpdate t (.map (some b)) (keV key) val).run Tryd.prog w = .ok () w' ∧ Ms w' b (n + 1) (fun k => if k = key then some val else f k) ∧ w.grownBy w' (some b) := by
  obtain ⟨D, h1, h2⟩ := h
  obtain ⟨w', hrun, ho, hg⟩ := h1.update law ht hn (key := keV key) (val := val) (kl := nk key) (d := .held val) (ps := []) (nk_of hk) rfl
  refine ⟨w', hrun, ⟨_, ho, fun k hok => ?_⟩, hg⟩
  by_cases e : k = key
  · subst e
    dsimp only
    rw [if_pos rfl, has_put_same h1.isMap (nk_key hok)]
    exact ⟨rfl, fun z => by rw [atKey_put_same h1.isMap (nk_key hok)]; rfl⟩
  · have hne : nk k ≠ nk key := fun q => e (nk_inj hok hk q)
    dsimp only
    rw [if_neg e, has_put_other hne]
    exact ⟨(h2 k hok).1, fun z => by rw [atKey_put_other hne]; exact (h2 k hok).2 z⟩
set_option maxRecDepth 100000 in
/-- 'm[k] = g(m[k])': the entry, then the store. -/
theorem Ms.entry {w : World} {b n : Nat} {f : Ke → Option Value} (h : Ms w b n f) {t e : TypeId} (ht : Tryd.prog.underlying t = some (.map 132 e)) (hn : n < maxLen) {z : Value} (hz : ∀ u : World, (zeroValue e).run Tryd.prog u = .ok z u) {key : Ke} (hk : KeOk key) :
    ∃ (st : Int) (w1 : World), (Instr.mapEntry t (.map (some b)) (keV key)).run Tryd.prog w = .ok (.tuple #[(f key).getD z, .int .i64 st]) w1 ∧ w.grownBy w1 (some b) ∧ w1.heap.size = w.heap.size ∧
      ∀ (w2 : World) (val : Value), w2.heap[b]? = w1.heap[b]? → ∃ w3, (Instr.entryStore t (.map (some b)) (.int .i64 st) val).run Tryd.prog w2 = .ok () w3 ∧ Ms w3 b (n + 1) (fun k => if k = key then some val else f k) ∧ w2.grownBy w3 (some b) := by
  obtain ⟨D, h1, h2⟩ := id h
  obtain ⟨es, clock, hb, F, hsz, hD⟩ := id h1
  obtain ⟨v0, st, es1, clock1, r1, r2, r3⟩ := WideElems.entry_then_store klaw ht hz hb F (nk_of hk)
  have hlook := h.look ht (hz w) hk
  have hv0 : v0 = (f key).getD z := by
    rcases klaw.find w (nk_of hk) es.toList F.keys with ⟨q1, q2⟩ | ⟨j, e0, q1, q2, q3⟩
    · have e1 : (Instr.lookup t (.map (some b)) (keV key) false).run Tryd.prog w = .ok z w := by
        simp [Instr.lookup, run_underlying ht, MapKept.run_getObj_map hb, klaw.check w es.isEmpty (nk_of hk), q1, hz, Result.andThen]
      rw [hlook] at e1
      injection e1 with e1
      rcases r2 with ⟨e0, m0, k0, -⟩ | ⟨-, k1⟩
      · exact absurd k0 (q2 e0 m0)
      · rw [k1, e1]
    · have e1 : (Instr.lookup t (.map (some b)) (keV key) false).run Tryd.prog w = .ok e0.val w := by
        simp [Instr.lookup, run_underlying ht, MapKept.run_getObj_map hb, klaw.check w es.isEmpty (nk_of hk), q1, Result.andThen]
      rw [hlook] at e1
      injection e1 with e1
      have hj : es[j]? = some e0 := by simpa using q2
      simp [Instr.mapEntry, run_underlying ht, MapKept.run_getObj_map hb, klaw.check w false (nk_of hk), q1, hj, q3, klaw.stays w (nk_of hk), MapKept.run_setObj_map _ hb, Result.andThen, setBlock] at r1
      rw [← r1.1.1, e1]
  subst hv0
  refine ⟨st, _, r1, ⟨rfl, rfl, rfl, by simp [setBlock], fun i _ hi => heap_setBlock_other hb _ (fun e => hi (by rw [e]))⟩, by simp [setBlock], fun w2 val hw2 => ?_⟩
  have hw2' : w2.heap[b]? = some (.map es1 clock1) := hw2.trans (heap_setBlock_same hb _)
  obtain ⟨es', clock', s1, s2⟩ := r3 w2 val hw2'
  obtain ⟨w', u1, ⟨D', u2, u3⟩, -⟩ := h.update ht hn hk val
  rw [s2] at u1
  injection u1 with _ u1
  subst u1
  refine ⟨_, s1, ⟨D', ?_, u3⟩, ⟨rfl, rfl, rfl, by simp [setBlock], fun i _ hi => heap_setBlock_other hw2' _ (fun e => hi (by rw [e]))⟩⟩
  obtain ⟨es2, clock2, hb2, rest⟩ := u2
  rw [heap_setBlock_same hb] at hb2
  exact ⟨es2, clock2, (heap_setBlock_same hw2' _).trans hb2, rest⟩
end Ow
end Go.Proofs.YtlakgkoohdfiaaaDoor.Tm
