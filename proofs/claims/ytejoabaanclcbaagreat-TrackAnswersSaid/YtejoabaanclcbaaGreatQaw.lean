/- Texts of this proof. -/
import Derived.Test.YtejoabaanclcbaaGreatQav
import Derived.Test.YtejoabaanclcbaaGreatQaf
import Derived.Shelf.SlSortCmp.SmallK
import Derived.Shelf.Small.Bits
import Derived.Shelf.Small.Wraps
import Derived.Maps.OwnSet
import Derived.Maps.RangeWalk
namespace Go.Proofs.YtejoabaanclcbaaGreat.Tk
open Go.RowKit Go.Shelf Go.Lib Go.Sort

instance : Inhabited Sg := ⟨⟨⟨#[]⟩, 0, 0, 0⟩⟩
def cfG (x y : Sg) : Int := Lib.compareInt x.t y.t
set_option maxHeartbeats 1000000 in
theorem lessG_any (x y : Sg) (W : World) : Calls Tryz.prog 57 #[.agg (sgCells x).toArray, .agg (sgCells y).toArray] W fun e w' => e = .returned (.int .i64 (cfG x y)) ∧ ∃ q os', w' = grow (W.drewN q) os' := by
  obtain ⟨n1, t1, d1, i1⟩ := x
  obtain ⟨n2, t2, d2, i2⟩ := y
  have e : cfG ⟨n1, t1, d1, i1⟩ ⟨n2, t2, d2, i2⟩ = Lib.compareInt t1 t2 := rfl
  rw [e]; clear e
  have hcc := Any.cmp_Compare_int Tryz.cmpCompare t1 t2
  generalize Lib.compareInt t1 t2 = c at *
  have HC := Lib.hid hcc; clear hcc
  show Calls Tryz.prog 57 #[.agg #[.string n1, .int .i64 t1, .int .i64 (d1 : Int), .int .i64 (i1 : Int)], .agg #[.string n2, .int .i64 t2, .int .i64 (d2 : Int), .int .i64 (i2 : Int)]] W _
  go_enter Tryz.func57, Tryz.ntmps57
  go_wp2_with fail
  refine (HC.out _).mono ?_
  rintro e w1 ⟨rfl, rfl⟩
  go_wp2_with fail
  go_ret
  exact ⟨rfl, 0, _, by rw [alloc_eq_grow, alloc_eq_grow, grow_grow]; rfl⟩
theorem cfG_neg (x y : Sg) : cfG x y < 0 ↔ x.t < y.t := by
  unfold cfG Lib.compareInt
  split
  · simp_all
  · split <;> simp_all
theorem swoG : SWO (ltOf cfG) where
  irrefl x := by simp [ltOf, cfG_neg]
  trans x y z h1 h2 := by
    have a := (cfG_neg x y).1 (of_decide_eq_true h1)
    have b := (cfG_neg y z).1 (of_decide_eq_true h2)
    exact decide_eq_true ((cfG_neg x z).2 (by omega))
  ntrans x y z h1 h2 := by
    have a := mt (cfG_neg x y).2 (of_decide_eq_false h1)
    have b := mt (cfG_neg y z).2 (of_decide_eq_false h2)
    exact decide_eq_false (mt (cfG_neg x z).1 (by omega))
theorem bitsG (n : Nat) (W : World) (h : n ≤ 12) : Calls Tryz.prog 61 #[.int .u64 n] W fun e w' => (∃ l : Int, e = .returned (.int .i64 l)) ∧ w' = W :=
  (Any.bits_Len Tryz.bitsLen n W (by omega) (by omega)).mono fun _ _ ⟨he, hw⟩ => ⟨⟨_, he⟩, hw⟩
theorem sortG_grown (w : World) (g n : Nat) (d' : Array Sg) (os : Array Obj) : w.grownBy (sortWorldK sgCells 4 w g 0 n d' os) (some g) := by
  refine ⟨rfl, rfl, rfl, ?_, fun i hi hr => ?_⟩
  · simp [sortWorldK, putRowK, Sort.putRow, Sort.mapBlock]
  · unfold sortWorldK
    rw [heap_grow_old _ _ (by simpa [putRowK, Sort.putRow, Sort.mapBlock] using hi)]
    have hne : g ≠ i := fun e => hr (by rw [e])
    simp [putRowK, Sort.putRow, Sort.mapBlock, Array.getElem?_modify, hne]
/-- What the sort leaves. -/
def SortsG (W : World) (base : Nat) (v : Value) (L : List Sg) (e : Ending) (w : World) : Prop :=
  e = .returned (.tuple #[]) ∧ W.grownBy w v.ownBlock ∧ ∃ L' : List Sg, L'.Perm L ∧ L'.Pairwise (fun x y => x.t ≤ y.t) ∧ w.ownsRow base 74 4 v L'.length (sgc L')
theorem sortG_some (base g cap : Nat) (L : List Sg) (w : World) (hl : L.length ≤ 12) (ho : w.ownsRow base 74 4 (.slice (some ⟨g, 0, none⟩) L.length cap) L.length (sgc L)) :
    Calls Tryz.prog 56 #[.slice (some ⟨g, 0, none⟩) L.length cap, .func (.func 57) #[] #[]] w (SortsG w base (.slice (some ⟨g, 0, none⟩) L.length cap) L) := by
  have eg : ∀ args w, (callFunc 57 args).run Tryz.prog w = .ok (.enter 57 args) w := enters_of Tryz.func57 (by kernel_rfl) rfl
  have hfz := fun j => ho.frozenAt j
  rcases ho.2 with ⟨e, -⟩ | ⟨g', cap', cur, e, hb, hg, hc, hm, hs, hx⟩
  · cases e
  obtain ⟨rfl, rfl⟩ : g = g' ∧ cap = cap' := by injection e with e1 e2 e3; injection e1 with e1; injection e1 with e1; exact ⟨e1, e3⟩
  have hgl : g < w.heap.size := (Array.getElem?_eq_some_iff.1 hg).1
  have hH : HoldsK sgCells 4 w g 0 L.toArray := by
    intro t ht
    simp only [size_flatK, List.size_toArray] at ht
    refine ⟨?_, by simpa using hfz (0 + t)⟩
    rw [get_flatK _ _ _ _ (by simpa using ht)]
    have hi : t / 4 < L.length := by omega
    have h1 : w.cell? ⟨g, 0 + t, none⟩ = cur[t]? := by simp [World.cell?, hg]
    have h2 := sgc_at L (t / 4) hi (t % 4) (Nat.mod_lt _ (by omega))
    rw [show t / 4 * 4 + t % 4 = t by omega, ← hx, List.getElem?_take, if_pos (by omega), Array.getElem?_toList] at h2
    have e : L.toArray[t / 4]! = L[t / 4] := by simp [hi]
    rw [h1, h2, e]
    have h3 : t % 4 < (sgCells L[t / 4]).length := Nat.mod_lt _ (by omega)
    rw [List.getElem?_eq_getElem h3]
    simp [h3]
  have hcon := AnyQ.slices_SortFunc_small_sorted Tryz.sortSight 4 Tryz.isAgg74 Tryz.sizeOf74 sgCells (fun _ => rfl) (fun x v hv => by simp [sgCells] at hv; rcases hv with rfl | rfl | rfl | rfl <;> rfl) cfG 57 #[] swoG g 0 cap L.toArray w eg (fun _ _ _ _ x y => lessG_any x y _) hH hgl (by simpa using hl) bitsG
  have e' : L.toArray.size = L.length := by simp
  rw [e'] at hcon
  refine hcon.mono ?_
  rintro e'' w' ⟨rfl, d', n, os, hp, hsd, rfl⟩
  obtain ⟨p1, _, p3⟩ := hp
  have p3' : d'.toList.Perm L := by
    have e1 : d'.extract 0 L.length = d' := by rw [← e', ← p1, Array.extract_size]
    have e2 : L.toArray.extract 0 L.length = L.toArray := by rw [← e', Array.extract_size]
    rw [e1, e2] at p3
    simpa using p3
  refine ⟨rfl, sortG_grown _ _ _ _ _, d'.toList, p3', ?_, ?_⟩
  · rw [List.pairwise_iff_getElem]
    intro i j hi hj hij
    have hi' : i < d'.size := by simpa using hi
    have hj' : j < d'.size := by simpa using hj
    have h1 := of_decide_eq_false (hsd i j (Nat.zero_le _) hij (by rw [← e', ← p1]; exact hj'))
    rw [getElem!_pos d' j hj', getElem!_pos d' i hi'] at h1
    have h2 := mt (cfG_neg d'[j] d'[i]).2 h1
    simp only [Array.getElem_toList]
    omega
  · have hlen : d'.toList.length = L.length := p3'.length_eq
    have hsz : d'.size = L.length := by simpa using hlen
    refine ⟨by rw [sgc_len], .inr ⟨g, cap, putCells id 0 (flatK sgCells 4 d') cur, by rw [hlen], hb, ?_, by rw [hlen]; exact hc, hm, by simp [putCells, hs], ?_⟩⟩
    · unfold sortWorldK
      rw [heap_grow_old _ _ (by simpa [putRowK, Sort.putRow, Sort.mapBlock] using hgl)]
      show (w.heap.modify g (onCells (putCells id 0 (flatK sgCells 4 d'))))[g]? = _
      rw [Array.getElem?_modify, if_pos rfl, hg]
      rfl
    · refine List.ext_getElem? fun k => ?_
      rw [List.getElem?_take]
      by_cases hk : k < d'.toList.length * 4
      · rw [if_pos hk]
        have hi : k / 4 < d'.toList.length := by omega
        have h2 := sgc_at d'.toList (k / 4) hi (k % 4) (Nat.mod_lt _ (by omega))
        rw [show k / 4 * 4 + k % 4 = k by omega] at h2
        have hkc : k < cur.size := by rw [hs]; have := Nat.mul_le_mul_right 4 hc; omega
        have hkf : k < d'.size * 4 := by omega
        rw [h2, Array.getElem?_toList]
        have h4 : (putCells id 0 (flatK sgCells 4 d') cur)[k]? = some (flatK sgCells 4 d')[k]! := by
          unfold putCells
          rw [Array.getElem?_mapIdx, Array.getElem?_eq_getElem hkc]
          simp [hkf]
        rw [h4, get_flatK _ _ _ _ hkf]
        have hi2 : k / 4 < d'.size := by omega
        rw [getElem!_pos d' (k / 4) hi2]
        have h3 : k % 4 < (sgCells d'[k / 4]).length := Nat.mod_lt _ (by omega)
        rw [Array.getElem_toList, List.getElem?_eq_getElem h3]
        simp [h3]
      · rw [if_neg hk, List.getElem?_eq_none (by rw [sgc_len]; omega)]
end Go.Proofs.YtejoabaanclcbaaGreat.Tk


namespace Go.Proofs.YtejoabaanclcbaaGreat.Tk
open Go.RowKit Go.Shelf Go.Lib Go.Sort

set_option maxHeartbeats 1000000 in
theorem insG_none (w : World) (q : Value) : Calls Tryz.prog 97 #[.slice none 0 0, .int .i64 0, .int .i64 0, q] w fun e w' => e = .returned (.tuple #[]) ∧ w = w' := by
  go_enter Tryz.func97, Tryz.ntmps97
  go_wp2_with fail
  go_loopw [8] (fun t wr => t = .int .i64 1 ∧ wr = w) (fun _ _ => 0)
  case atStart => exact ⟨rfl, rfl⟩
  case round =>
    obtain ⟨rfl, rfl⟩ := hrel
    go_wp2_with fail
    go_end0
    exact ⟨rfl, rfl⟩
set_option maxHeartbeats 1000000 in
theorem pdqG_none (w : World) (q : Value) (l : Int) : Calls Tryz.prog 72 #[.slice none 0 0, .int .i64 0, .int .i64 0, .int .i64 l, q] w fun e w' => e = .returned (.tuple #[]) ∧ w = w' := by
  go_enter Tryz.func72, Tryz.ntmps72
  go_wp2_with fail
  go_loopw [1, 2] (fun t u wr => t = .int .i64 0 ∧ u = .int .i64 0 ∧ wr = w) (fun _ _ _ => 0)
  case atStart => exact ⟨rfl, rfl, rfl⟩
  case round =>
    obtain ⟨rfl, rfl, rfl⟩ := hrel
    go_wp2_with fail
    refine (insG_none _ q).mono ?_
    rintro e w1 ⟨rfl, rfl⟩
    go_wp2_with fail
    refine bodyPost_ret (results_none rfl _ _ _) rfl ?_
    exact ⟨rfl, rfl⟩
set_option maxHeartbeats 1000000 in
theorem sortG_none (w : World) : Calls Tryz.prog 56 #[.slice none 0 0, .func (.func 57) #[] #[]] w fun e w' => e = .returned (.tuple #[]) ∧ w = w' := by
  go_enter Tryz.func56, Tryz.ntmps56
  go_wp2_with fail
  refine (bitsG 0 _ (by omega)).mono ?_
  rintro e w1 ⟨⟨l, rfl⟩, rfl⟩
  go_wp2_with fail
  refine (pdqG_none _ _ l).mono ?_
  rintro e w2 ⟨rfl, rfl⟩
  go_wp2_with fail
  go_end0
  exact ⟨rfl, rfl⟩
/-- Any few sightings. -/
theorem sortG_any (base : Nat) (v : Value) (L : List Sg) (w : World) (hl : L.length ≤ 12) (ho : w.ownsRow base 74 4 v L.length (sgc L)) :
    Calls Tryz.prog 56 #[v, .func (.func 57) #[] #[]] w (SortsG w base v L) := by
  rcases ho.2 with ⟨rfl, h0⟩ | ⟨g, cap, cur, rfl, -⟩
  · refine (sortG_none w).mono ?_
    rintro e w' ⟨rfl, rfl⟩
    obtain rfl : L = [] := List.eq_nil_of_length_eq_zero h0
    exact ⟨rfl, ⟨rfl, rfl, rfl, Nat.le_refl _, fun _ _ _ => rfl⟩, [], List.Perm.refl _, List.Pairwise.nil, ho⟩
  · exact sortG_some base g cap L w hl ho
end Go.Proofs.YtejoabaanclcbaaGreat.Tk


namespace Go.Proofs.YtejoabaanclcbaaGreat.Tk
open Go.RowKit Go.Maps

theorem lawS : Keyed Tryz.prog 9 := string_keyed Tryz.underlying9
/-- An element reads as itself. -/
def MnR : Value → Option (DataW Value × List MemPlace) := fun v => some (.held v, [])
/-- A name as a key. -/
def nk (k : ByteArray) : Lit := .string k.data.toList
theorem nk_inj {k k' : ByteArray} (h : nk k = nk k') : k = k' := by
  unfold nk at h
  injection h with h
  exact ByteArray.ext (Array.toList_inj.1 h)
theorem nk_key (k : ByteArray) : WideAt.IsKeyLit (nk k) := trivial
theorem nk_of {k : ByteArray} (h : k.size ≤ maxLen) : keyOf Tryz.prog 9 (.string k) = some (nk k) := WideMaps.keyOf_string_mk Tryz.underlying9 h
theorem nk_inv {key : Value} {kl : Lit} (h : keyOf Tryz.prog 9 key = some kl) : ∃ k : ByteArray, key = .string k ∧ kl = nk k ∧ k.size ≤ maxLen := by
  cases key <;> simp [keyOf, Tryz.underlying9, mapKey] at h
  obtain ⟨h1, h2⟩ := h
  exact ⟨_, rfl, h2.symm, h1⟩
/-- Block b is a map of at most n names that has f of each. -/
def Mn (w : World) (b n : Nat) (f : ByteArray → Option Value) : Prop :=
  ∃ D : DataW Value, w.ownsMap Tryz.prog 9 MnR b n D ∧ ∀ k, Maps.has D (nk k) = (f k).isSome ∧ ∀ z, D.atKey (nk k) (.held z) = .held ((f k).getD z)
theorem Mn.made (w : World) : Mn (w.alloc (.map #[] 0)) w.heap.size 0 (fun _ => none) :=
  ⟨.map [], World.ownsMap_made _ _ _ _, fun _ => ⟨rfl, fun _ => rfl⟩⟩
theorem Mn.lt {w : World} {b n : Nat} {f : ByteArray → Option Value} (h : Mn w b n f) : b < w.heap.size := by
  obtain ⟨D, h, -⟩ := h
  exact h.lt
theorem Mn.kept {w w' : World} {b n : Nat} {f : ByteArray → Option Value} {row : Option Nat} (h : Mn w b n f) (hg : w.grownBy w' row) (hne : some b ≠ row) : Mn w' b n f := by
  obtain ⟨D, h, r⟩ := h
  exact ⟨D, h.kept hg hne, r⟩
theorem Mn.ne_own {w : World} {b n : Nat} {f : ByteArray → Option Value} (h : Mn w b n f) {base size k : Nat} {e : TypeId} {v : Value} {xs : List Value} (ho : w.ownsRow base e size v k xs) : some b ≠ v.ownBlock := by
  rcases ho.2 with ⟨rfl, _⟩ | ⟨g', cap, cur, rfl, _, hh, _⟩
  · simp [Value.ownBlock]
  · intro he
    have e : b = g' := by simpa [Value.ownBlock] using he
    subst e
    obtain ⟨D, ⟨es, clock, hb, -⟩, -⟩ := h
    rw [hb] at hh
    cases hh
theorem Mn.ne_row {w : World} {b n g : Nat} {f : ByteArray → Option Value} {t : TypeId} {cs : Array Value} (h : Mn w b n f) (hr : Row w g t cs) : b ≠ g := by
  rintro rfl
  obtain ⟨D, ⟨es, clock, hb, -⟩, -⟩ := h
  unfold Row at hr
  rw [hb] at hr
  cases hr
/-- 'm[k]'. -/
theorem Mn.look {w : World} {b n : Nat} {f : ByteArray → Option Value} (h : Mn w b n f) {t e : TypeId} (ht : Tryz.prog.underlying t = some (.map 9 e)) {z : Value} (hz : (zeroValue e).run Tryz.prog w = .ok z w) {key : ByteArray} (hk : key.size ≤ maxLen) :
    (Instr.lookup t (.map (some b)) (.string key) false).run Tryz.prog w = .ok ((f key).getD z) w := by
  obtain ⟨D, h1, h2⟩ := h
  obtain ⟨v, ps, hrun, hv⟩ := h1.lookup lawS ht hz (zd := .held z) (zp := []) rfl (nk_of hk)
  have hv1 := (Prod.mk.inj (Option.some.inj hv)).1
  rw [(h2 key).2 z] at hv1
  rw [hrun, DataW.held.inj hv1]
/-- 'm[k] = v'. -/
theorem Mn.update {w : World} {b n : Nat} {f : ByteArray → Option Value} (h : Mn w b n f) {t e : TypeId} (ht : Tryz.prog.underlying t = some (.map 9 e)) (hn : n < maxLen) {key : ByteArray} (hk : key.size ≤ maxLen) (val : Value) :
    ∃ w', (Instr.mapUpdate t (.map (some b)) (.string key) val).run Tryz.prog w = .ok () w' ∧ Mn w' b (n + 1) (fun k => if k = key then some val else f k) ∧ w.grownBy w' (some b) := by
  obtain ⟨D, h1, h2⟩ := h
  obtain ⟨w', hrun, ho, hg⟩ := h1.update lawS ht hn (key := .string key) (val := val) (kl := nk key) (d := .held val) (ps := []) (nk_of hk) rfl
  refine ⟨w', hrun, ⟨_, ho, fun k => ?_⟩, hg⟩
  by_cases e : k = key
  · subst e
    dsimp only
    rw [if_pos rfl, has_put_same h1.isMap (nk_key k)]
    exact ⟨rfl, fun z => by rw [atKey_put_same h1.isMap (nk_key k)]; rfl⟩
  · have hne : nk k ≠ nk key := fun q => e (nk_inj q)
    dsimp only
    rw [if_neg e, has_put_other hne]
    exact ⟨(h2 k).1, fun z => by rw [atKey_put_other hne]; exact (h2 k).2 z⟩
/-- The sightings of a name. -/
def gr (L : List Sg) (k : ByteArray) : List Sg := L.filter fun x => decide (x.nm = k)
theorem gr_app_same (L : List Sg) (x : Sg) : gr (L ++ [x]) x.nm = gr L x.nm ++ [x] := by simp [gr]
theorem gr_app_other (L : List Sg) {x : Sg} {k : ByteArray} (h : k ≠ x.nm) : gr (L ++ [x]) k = gr L k := by
  simp [gr]
  exact fun e => h e.symm
/-- Block b is the map of the groups of L; its rows are their own. -/
structure Gp (w0 : World) (L : List Sg) (b : Nat) (f : ByteArray → Option Value) (Y : World) : Prop where
  below : Below w0.heap.size w0 Y
  map : Mn Y b L.length f
  new : w0.heap.size ≤ b
  rows : ∀ k v, f k = some v → Y.ownsRow w0.heap.size 74 4 v (gr L k).length (sgc (gr L k)) ∧ 0 < (gr L k).length
  nil : ∀ k, f k = none → gr L k = []
  apart : ∀ k k' v v', k ≠ k' → f k = some v → f k' = some v' → v.ownBlock ≠ v'.ownBlock
theorem own_pos {w : World} {base size n : Nat} {e : TypeId} {v : Value} {xs : List Value} (h : w.ownsRow base e size v n xs) (hn : 0 < n) : ∃ g, v.ownBlock = some g ∧ base ≤ g ∧ g < w.heap.size := by
  rcases h.2 with ⟨-, h0⟩ | ⟨g, cap, cur, rfl, h1, h2, h3⟩
  · omega
  · exact ⟨g, rfl, h1, (Array.getElem?_eq_some_iff.1 h2).1⟩
theorem Gp.made (w0 : World) : Gp w0 [] w0.heap.size (fun _ => Option.none) (w0.alloc (.map #[] 0)) where
  below := (Below.refl _ _).alloc (Nat.le_refl _) _
  map := Mn.made w0
  new := Nat.le_refl _
  rows := fun k v h => by cases h
  nil := fun k _ => rfl
  apart := fun k k' v v' _ h => by cases h
section
variable {w0 Y Y' Y1 Y2 : World} {L : List Sg} {b : Nat} {f : ByteArray → Option Value}
theorem Gp.under (h : Gp w0 L b f Y) (hb : Below Y.heap.size Y Y') : Gp w0 L b f Y' where
  below := h.below.trans (hb.mono h.below.size)
  map := h.map.kept (row := Option.none) (grown_below hb) (by simp)
  new := h.new
  rows := fun k v e => ⟨own_under (h.rows k v e).1 hb, (h.rows k v e).2⟩
  nil := h.nil
  apart := h.apart
/-- What stands at a name, or nothing. -/
theorem Gp.at (h : Gp w0 L b f Y) (k : ByteArray) : Y.ownsRow w0.heap.size 74 4 ((f k).getD (.slice none 0 0)) (gr L k).length (sgc (gr L k)) := by
  cases hf : f k with
  | none => rw [h.nil k hf]; exact ⟨rfl, .inl ⟨rfl, rfl⟩⟩
  | some v => exact (h.rows k v hf).1
/-- A sighting is appended to its name's row, and the row is laid into the map. -/
theorem Gp.step (h : Gp w0 L b f Y) (x : Sg) {v' : Value} (ho : Y1.ownsRow w0.heap.size 74 4 v' ((gr L x.nm).length + 1) (sgc (gr L x.nm) ++ sgCells x)) (hg : Y.grownBy Y1 ((f x.nm).getD (.slice Option.none 0 0)).ownBlock)
    (hnew : v'.ownBlock = ((f x.nm).getD (.slice Option.none 0 0)).ownBlock ∨ ∃ g, v'.ownBlock = some g ∧ Y.heap.size ≤ g)
    (hm : Mn Y2 b (L.length + 1) (fun k => if k = x.nm then some v' else f k)) (hg2 : Y1.grownBy Y2 (some b)) : Gp w0 (L ++ [x]) b (fun k => if k = x.nm then some v' else f k) Y2 := by
  have hM1 : Mn Y1 b L.length f := h.map.kept hg (h.map.ne_own (h.at x.nm))
  have hY1 : Below w0.heap.size w0 Y1 := below_own h.below h.below.size (h.at x.nm) hg
  have hbY1 : b < Y1.heap.size := hM1.lt
  have keep2 : ∀ {size n : Nat} {e : TypeId} {v : Value} {xs : List Value}, Y1.ownsRow w0.heap.size e size v n xs → Y2.ownsRow w0.heap.size e size v n xs := fun {_ _ _ v _} hv =>
    own_keep hv fun i hi => hg2.block i (own_lt hv hi).2 (fun e => hM1.ne_own hv (by rw [hi, e]))
  have hx1 : gr (L ++ [x]) x.nm = gr L x.nm ++ [x] := gr_app_same L x
  refine ⟨below_by hY1 hY1.size h.new hg2, by rw [List.length_append]; exact hm, h.new, fun k v e => ?_, fun k e => ?_, fun k k' v u hne e e' => ?_⟩
  · try dsimp only at e
    by_cases hk : k = x.nm
    · subst hk
      rw [if_pos rfl] at e
      cases e
      rw [hx1, sgc_app, List.length_append]
      exact ⟨by simpa [sgc] using keep2 ho, by simp⟩
    · rw [if_neg hk] at e
      rw [gr_app_other L hk]
      obtain ⟨r1, r2⟩ := h.rows k v e
      refine ⟨keep2 (own_keep r1 fun i hi => hg.block i (own_lt r1 hi).2 (fun e2 => ?_)), r2⟩
      cases hf : f x.nm with
      | none => rw [hf] at e2; cases e2
      | some u => rw [hf] at e2; exact h.apart k x.nm v u hk e hf (by rw [hi, e2]; rfl)
  · try dsimp only at e
    by_cases hk : k = x.nm
    · rw [if_pos hk] at e; cases e
    · rw [if_neg hk] at e
      rw [gr_app_other L hk]
      exact h.nil k e
  · have far : ∀ k v, k ≠ x.nm → f k = some v → v'.ownBlock ≠ v.ownBlock := fun k v hk e hb => by
      obtain ⟨r1, r2⟩ := h.rows k v e
      obtain ⟨g, hg', -, hgl⟩ := own_pos r1 r2
      rcases hnew with hn | ⟨g', hn, hge⟩
      · cases hf : f x.nm with
        | none => rw [hf] at hn; rw [hb, hg'] at hn; cases hn
        | some u => rw [hf] at hn; exact h.apart k x.nm v u hk e hf (by rw [← hb, hn]; rfl)
      · rw [hb, hg'] at hn
        injection hn with hn
        omega
    try dsimp only at e e'
    by_cases hk : k = x.nm
    · rw [if_pos hk] at e
      cases e
      by_cases hk' : k' = x.nm
      · exact absurd (hk.trans hk'.symm) hne
      · rw [if_neg hk'] at e'
        exact far k' u hk' e'
    · rw [if_neg hk] at e
      by_cases hk' : k' = x.nm
      · rw [if_pos hk'] at e'
        cases e'
        exact (far k v hk e).symm
      · rw [if_neg hk'] at e'
        exact h.apart k k' v u hne e e'
end
end Go.Proofs.YtejoabaanclcbaaGreat.Tk

