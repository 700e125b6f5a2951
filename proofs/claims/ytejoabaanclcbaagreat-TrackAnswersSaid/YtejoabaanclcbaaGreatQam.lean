/- Texts of this proof. -/
import Derived.Test.YtejoabaanclcbaaGreatCln
import Derived.Test.YtejoabaanclcbaaGreatQan
import Derived.Test.YtejoabaanclcbaaGreatQaf
import Derived.Deep.DeepAppendRoom
namespace Go.Proofs.YtejoabaanclcbaaGreat
open Go.RowKit Go.Maps

/-- The cells before a point. -/
def cpre (n f a b : Nat) : List Lat.Tr := Lat.cls n f ++ Lat.cface n f a ++ Lat.crow n f a b
theorem cpre_len {n f a b : Nat} (hn : n ≤ 8) (hf : f < 20) (ha : a < n) (hb : b ≤ n - a) : (cpre n f a b).length ≤ 2000 := by
  unfold cpre
  rw [List.length_append, List.length_append, Lat.cls_len, Lat.crow_len ha b hb]
  have h1 := Lat.cface_len (n := n) (f := f) a (by omega)
  have h2 : n * n ≤ 64 := Nat.mul_le_mul hn hn
  have h3 : f * (n * n) ≤ 20 * 64 := Nat.mul_le_mul (by omega) h2
  omega
theorem cpre_b (n f a b : Nat) : cpre n f a (b + 1) = cpre n f a b ++ Lat.ctri n f a b := by unfold cpre; rw [Lat.crow_succ, ← List.append_assoc]
theorem cpre_a (n f a : Nat) : cpre n f a (n - a) = cpre n f (a + 1) 0 := by unfold cpre; rw [Lat.cface_succ]; simp [Lat.crow]
theorem cpre_f (n f : Nat) : cpre n f n 0 = cpre n (f + 1) 0 0 := by unfold cpre; rw [Lat.cls_succ]; simp [Lat.crow, Lat.cface]
theorem cpre_0 (n : Nat) : cpre n 0 0 0 = [] := by simp [cpre, Lat.cls, Lat.cface, Lat.crow]
theorem cpre_all (n : Nat) : cpre n 20 0 0 = Lat.cls n 20 := by simp [cpre, Lat.cface, Lat.crow]
/-- .. with some list. -/
def ClE (W : World) (n gl bl bv : Nat) (L : List Lat.Tr) (w : World) : Prop := ∃ g cap, Cl W n gl bl bv g cap L w
theorem ClE.under {W w w' : World} {n gl bl bv : Nat} {L : List Lat.Tr} (h : ClE W n gl bl bv L w) (hb : Below w.heap.size w w') : ClE W n gl bl bv L w' := by
  obtain ⟨g, cap, h⟩ := h
  exact ⟨g, cap, h.under hb⟩
/-- What cellNodes leaves. -/
def CellNR (W : World) (n : Nat) (e : Ending) (w : World) : Prop := ∃ g cap, e = .returned (.slice (some ⟨g, 0, none⟩) (Lat.cls n 20).length cap) ∧ Below W.heap.size W w ∧ w.ownsRow W.heap.size 130 3 (.slice (some ⟨g, 0, none⟩) (Lat.cls n 20).length cap) (Lat.cls n 20).length (tcs (Lat.cls n 20))
theorem below_new0 {w w' : World} (hg : w.grownBy w' none) : Below w.heap.size w w' := (Below.refl _ w).grown hg (Nat.le_refl _) (by simp)
set_option maxRecDepth 100000 in
theorem add_up (W : World) (n gl bl bv f a b : Nat) (c : Int) (L : List Lat.Tr) (w : World) (h : ClE W n gl bl bv L w) (hn : Lat.frq n) (hf : f < 20) (h0 : a + b < n) (hl : L.length ≤ 5000) :
    Calls Tryz.prog 126 #[.agg (tr12 f ((a : Int) + 1) b c a ((b : Int) + 1) c a b (c + 1)), .pointer (some ⟨bv, 0, none⟩), .pointer (some ⟨bl, 0, none⟩)] w (AddR W n gl bl bv (L ++ [Lat.up n f a b]) w) := by
  obtain ⟨g, cap, h⟩ := h
  exact add_any W n gl bl bv g cap f (a + 1) b a (b + 1) a b c c (c + 1) L w h hn hf (by omega) (by omega) (by omega) hl
set_option maxRecDepth 100000 in
theorem add_dn (W : World) (n gl bl bv f a b : Nat) (c c' : Int) (L : List Lat.Tr) (w : World) (h : ClE W n gl bl bv L w) (hn : Lat.frq n) (hf : f < 20) (h0 : a + b + 1 < n) (hl : L.length ≤ 5000) :
    Calls Tryz.prog 126 #[.agg (tr12 f a ((b : Int) + 1) c ((a : Int) + 1) b c ((a : Int) + 1) ((b : Int) + 1) c'), .pointer (some ⟨bv, 0, none⟩), .pointer (some ⟨bl, 0, none⟩)] w (AddR W n gl bl bv (L ++ [Lat.dn n f a b]) w) := by
  obtain ⟨g, cap, h⟩ := h
  exact add_any W n gl bl bv g cap f a (b + 1) (a + 1) b (a + 1) (b + 1) c c c' L w h hn hf (by omega) (by omega) (by omega) hl
set_option maxRecDepth 100000 in
set_option maxHeartbeats 8000000 in
theorem cellNodes_any (n : Nat) (w : World) (hn : Lat.frq n) :
    Calls Tryz.prog 111 #[.int .i64 n] w (CellNR w n) := by
  have hn8 : n ≤ 8 := hn.2
  obtain ⟨i0, hi, hz0, hz1, hz2⟩ := info_parts infoTrip
  have hmf : ∀ (fn : Fn) (first cap : Array Value) (w : World), (Instr.makeFunc fn first cap).run Tryz.prog w = .ok (.func fn first cap) w := fun _ _ _ _ => rfl
  have hm : 20 * n * n ≤ 1280 := by
    rw [Nat.mul_assoc]
    exact Nat.mul_le_mul (Nat.le_refl 20) (Nat.mul_le_mul hn8 hn8)
  have hm1 : 20 * (n : Int) * (n : Int) ≤ 1280 := by
    have : ((20 * n * n : Nat) : Int) ≤ 1280 := by omega
    exact this
  have hm0 : 0 ≤ 20 * (n : Int) * (n : Int) := by
    have : (0 : Int) ≤ ((20 * n * n : Nat) : Int) := by omega
    exact this
  have hn0 : 1 ≤ (n : Int) ∧ (n : Int) ≤ 8 := by unfold Lat.frq at hn; omega
  obtain ⟨hn1, hn2⟩ := hn0
  have HN := Lib.hid hn; clear hn
  go_enter Tryz.func111, Tryz.ntmps111
  go_upto_region 2 with (go_at_call 118; refine (lattice_any _ _ HN.out).mono ?_; rintro e w1 ⟨gl, rfl, hla⟩)
  have HL := Lib.hid hla; clear hla
  go_upto_region 3 with (at_make; refine wpList_make_own _ rfl _ _ 150 rfl w.heap.size 130 i0 _ 3 Tryz.underlying150 hi hz0 hz1 .i64 .i64 _ (20 * n * n) rfl rfl rfl (by rw [hz2]; omega) (by unfold maxLen; omega) (by have := HL.out.below.size; simp; omega) ?_; intro w2 hown2 hgrow2)
  have A1 := HL.out.alloc (.cells #[.pointer (some ⟨gl, 0, none⟩)] 156)
  have b2 := below_new0 hgrow2
  have hsz : (w1.alloc (.cells #[.pointer (some ⟨gl, 0, none⟩)] 156)).heap.size = w1.heap.size + 1 := by simp
  rw [hsz] at hown2
  have c0 : Cl w n gl w1.heap.size w2.heap.size (w1.heap.size + 1) (20 * n * n) [] (w2.alloc (.cells #[.slice (some ⟨w1.heap.size + 1, 0, none⟩) 0 (20 * n * n)] 150)) := by
    have hs := HL.out.below.size
    have hl := HL.out.lt
    have hz := b2.size
    rw [hsz] at hz
    exact ⟨(A1.under b2).alloc _, ((Row.new w1 _ _).under b2).alloc _, Row.new _ _ _, hown2.alloc _, by omega, by omega, by omega⟩
  refine forget (fun Y => ClE w n gl w1.heap.size w2.heap.size (cpre n 0 0 0) Y) ⟨_, _, by rw [cpre_0]; exact c0⟩ ?_
  clear A1 b2 c0 hsz hown2 hgrow2 HL hm hm0 hm1 hi hz0 hz1 hz2
  generalize w1.heap.size = bl at *
  generalize w2.heap.size = bv at *
  rintro Y hY
  have M0 := Lib.hid hY; clear hY
  go_wp2_with fail
  go_loopw [18] (fun t wr => ∃ f : Nat, f ≤ 20 ∧ t = .int .i64 f ∧ ClE w n gl bl bv (cpre n f 0 0) wr) (fun t _ => 20 - (intOf t).toNat)
  case atStart => exact ⟨0, by omega, rfl, M0.out⟩
  case round =>
    clear M0
    obtain ⟨f, hf, rfl, M⟩ := hrel
    by_cases hlt : f < 20
    · have HM := Lib.hid M; clear M
      have f1 : (f : Int) < 20 := by omega
      go_wp2_with fail
      go_loopw [22] (fun t wr => ∃ a : Nat, a ≤ n ∧ t = .int .i64 a ∧ ClE w n gl bl bv (cpre n f a 0) wr) (fun t _ => n - (intOf t).toNat)
      case atStart => exact ⟨0, by omega, rfl, HM.out⟩
      case round =>
        clear HM
        obtain ⟨a, ha, rfl, M⟩ := hrel
        by_cases hla : a < n
        · have HM := Lib.hid M; clear M
          have a1 : (a : Int) < (n : Int) := by omega
          go_wp2_with fail
          go_loopw [28] (fun t wr => ∃ b : Nat, b ≤ n - a ∧ t = .int .i64 b ∧ ClE w n gl bl bv (cpre n f a b) wr) (fun t _ => n - (intOf t).toNat)
          case atStart => exact ⟨0, by omega, rfl, HM.out⟩
          case round =>
            clear HM
            obtain ⟨b, hb, rfl, M⟩ := hrel
            by_cases hlb : b < n - a
            · have HM := Lib.hid M; clear M
              have b1 : (b : Int) < (n : Int) - (a : Int) := by omega
              have HLE := Lib.hid (cpre_len hn8 hlt hla hb)
              go_wp2_with fail
              refine (upright_any f a b _ _ (by omega) (by omega) (by omega) (by omega) (by omega) (by omega)).mono ?_
              rintro e w5 ⟨rfl, hb5⟩
              have HM5 := Lib.hid (HM.out.under hb5); clear hb5 HM
              go_wp2_with fail
              refine (add_up w n gl bl bv f a b _ _ _ HM5.out HN.out hlt (by omega) (by have := HLE.out; omega)).mono ?_
              rintro e w6 ⟨rfl, hb6, g6, cap6, hC⟩
              have HM6 : Hid (ClE w n gl bl bv (cpre n f a b ++ [Lat.up n f a b]) w6) := Lib.hid ⟨g6, cap6, hC⟩
              clear hC hb6 HM5
              by_cases hdn : a + b + 1 < n
              · have d1 : 0 < (n : Int) - 1 - (a : Int) - (b : Int) := by omega
                go_wp2_with fail
                refine (inverted_any f a b _ _ (by omega) (by omega) (by omega) (by omega) (by omega) (by omega)).mono ?_
                rintro e w7 ⟨rfl, hb7⟩
                have HM7 := Lib.hid (HM6.out.under hb7); clear hb7 HM6
                go_wp2_with fail
                refine (add_dn w n gl bl bv f a b _ _ _ _ HM7.out HN.out hlt hdn (by have := HLE.out; simp only [List.length_append, List.length_singleton]; omega)).mono ?_
                rintro e w8 ⟨rfl, hb8, g8, cap8, hC⟩
                have HM8 : Hid (ClE w n gl bl bv (cpre n f a (b + 1)) w8) := Lib.hid (by rw [cpre_b]; unfold Lat.ctri; rw [if_pos hdn]; exact ⟨g8, cap8, by simpa using hC⟩)
                clear hC hb8 HM7
                go_wp2_with fail
                go_roundw
                case rel => exact ⟨b + 1, by omega, by go_num, HM8.out⟩
                case measure => simp [intOf]; omega
              · have d1 : ¬ (0 < (n : Int) - 1 - (a : Int) - (b : Int)) := by omega
                have HM8 : Hid (ClE w n gl bl bv (cpre n f a (b + 1)) w6) := Lib.hid (by rw [cpre_b]; unfold Lat.ctri; rw [if_neg hdn]; exact HM6.out)
                clear HM6
                go_wp2_with fail
                go_roundw
                case rel => exact ⟨b + 1, by omega, by go_num, HM8.out⟩
                case measure => simp [intOf]; omega
            · have hbe : b = n - a := by omega
              have HBE := Lib.hid hbe; clear hbe
              have b1 : ¬ ((b : Int) < (n : Int) - (a : Int)) := by omega
              have HM := Lib.hid M; clear M
              go_wp2_with fail
              go_roundw
              case rel => exact ⟨a + 1, by omega, by go_num, by have := HM.out; rw [HBE.out, cpre_a] at this; exact this⟩
              case measure => simp [intOf]; omega
        · have hae : a = n := by omega
          have HAE := Lib.hid hae; clear hae
          have a1 : ¬ ((a : Int) < (n : Int)) := by omega
          have HM := Lib.hid M; clear M
          go_wp2_with fail
          go_roundw
          case rel => exact ⟨f + 1, by omega, by go_num, by have := HM.out; rw [HAE.out, cpre_f] at this; exact this⟩
          case measure => simp [intOf]; omega
    · have hfe : f = 20 := by omega
      rw [hfe, cpre_all] at M
      clear hfe
      have f1 : ¬ ((f : Int) < 20) := by omega
      obtain ⟨g, cap, hC⟩ := M
      have p0 := row1 hC.vr
      have HC := Lib.hid hC; clear hC
      go_wp2_with fail
      go_ret
      exact ⟨g, cap, rfl, HC.out.la.below, HC.out.own⟩
end Go.Proofs.YtejoabaanclcbaaGreat



namespace Go.Proofs.YtejoabaanclcbaaGreat
open Go.RowKit Go.Maps

/-- The numbers of a list. -/
def zs (l : List Nat) : List Int := l.map (fun x : Nat => (x : Int))
def zc (l : List Nat) : List Value := l.map (fun x : Nat => Value.int .i64 (x : Int))
theorem zs_len (l : List Nat) : (zs l).length = l.length := by simp [zs]
theorem zc_len (l : List Nat) : (zc l).length = l.length := by simp [zc]
theorem zc_snoc (l : List Nat) (b : Nat) : zc (l ++ [b]) = zc l ++ [.int .i64 (b : Int)] := by simp [zc]
theorem zc_one (l : List Nat) : ∀ u ∈ zc l, u.oneCell' = true := by
  intro u hu
  obtain ⟨x, -, rfl⟩ := List.mem_map.1 hu
  rfl
theorem zc_at (l : List Nat) (i : Nat) (h : i < l.length) : (zc l)[i]? = some (.int .i64 (l[i] : Int)) := by simp [zc, h]
/-- Block b holds these numbers from its beginning on; it may be written. -/
structure Cs (w : World) (b : Nat) (l : List Nat) : Prop where
  lt : b < w.heap.size
  at_ : ∀ j (h : j < l.length), w.cell? ⟨b, j, none⟩ = some (.int .i64 (l[j] : Int))
theorem Cs.under {w w' : World} {b : Nat} {l : List Nat} (h : Cs w b l) (hb : Below w.heap.size w w') : Cs w' b l :=
  ⟨Nat.lt_of_lt_of_le h.lt hb.size, fun j hj => (hb.cell (p := ⟨b, j, none⟩) h.lt).trans (h.at_ j hj)⟩
theorem Cs.grown {w w' : World} {b : Nat} {l : List Nat} {r : Option Nat} (h : Cs w b l) (hb : w.grownBy w' r) (hr : some b ≠ r) : Cs w' b l :=
  ⟨Nat.lt_of_lt_of_le h.lt hb.size, fun j hj => (hb.cell_far ⟨b, j, none⟩ h.lt hr).trans (h.at_ j hj)⟩
theorem cs_of_own {w : World} {base n b cap : Nat} {e : TypeId} {l : List Nat} (h : w.ownsRow base e 1 (.slice (some ⟨b, 0, none⟩) n cap) n (zc l)) (hn : n = l.length) : Cs w b l :=
  ⟨(own_heap h).2.1, fun j hj => by subst hn; rw [h.cellAt j (by omega)]; exact zc_at l j hj⟩
/-- A list of numbers as a value. -/
def NmL (w : World) (v : Value) (l : List Nat) : Prop := ∃ b cap, v = .slice (some ⟨b, 0, none⟩) l.length cap ∧ l.length ≤ cap ∧ cap ≤ 9223372036854775807 ∧ Cs w b l
theorem NmL.under {w w' : World} {v : Value} {l : List Nat} (h : NmL w v l) (hb : Below w.heap.size w w') : NmL w' v l := by
  obtain ⟨b, cap, h1, h2, h3, h4⟩ := h
  exact ⟨b, cap, h1, h2, h3, h4.under hb⟩
/-- Block g holds the lists of neighbours of all nodes. -/
structure Nb (w : World) (g n : Nat) : Prop where
  lt : g < w.heap.size
  at_ : ∀ i, i < cn n → ∃ v, w.cell? ⟨g, i, none⟩ = some v ∧ NmL w v (Lat.nbs n i)
theorem Nb.under {w w' : World} {g n : Nat} (h : Nb w g n) (hb : Below w.heap.size w w') : Nb w' g n :=
  ⟨Nat.lt_of_lt_of_le h.lt hb.size, fun i hi => by
    obtain ⟨v, h1, h2⟩ := h.at_ i hi
    exact ⟨v, (hb.cell (p := ⟨g, i, none⟩) h.lt).trans h1, h2.under hb⟩⟩
theorem Nb.drew {w : World} {g n : Nat} (h : Nb w g n) : Nb w.drew g n := h.under ⟨rfl, rfl, rfl, Nat.le_refl _, fun _ _ => rfl⟩
/-- What links leaves. -/
def LinksR (W : World) (n : Nat) (e : Ending) (w : World) : Prop := ∃ g cap, e = .returned (.slice (some ⟨g, 0, none⟩) (cn n) cap) ∧ cn n ≤ cap ∧ cap ≤ 9223372036854775807 ∧ Below W.heap.size W w ∧ W.heap.size ≤ g ∧ Nb w g n ∧ ∀ i, i < cn n → ∃ b c, w.cell? ⟨g, i, none⟩ = some (.slice (some ⟨b, 0, none⟩) (Lat.nbs n i).length c) ∧ W.heap.size ≤ b
end Go.Proofs.YtejoabaanclcbaaGreat



namespace Go.Proofs.YtejoabaanclcbaaGreat
open Go.RowKit Go.Maps Go.Shelf

/-- Block g holds the lists, each in a block of its own behind g, with room for six. -/
structure Lk (W : World) (n g : Nat) (G : Nat → List Nat) (w : World) : Prop where
  below : Below W.heap.size W w
  g0 : W.heap.size ≤ g
  tab : ∃ cs, Row w g 23 cs ∧ cs.size = cn n ∧ ∀ i, i < cn n → cs[i]? = some (.slice (some ⟨g + 1 + i, 0, none⟩) (G i).length 6)
  rws : ∀ i, i < cn n → w.ownsRow W.heap.size 3 1 (.slice (some ⟨g + 1 + i, 0, none⟩) (G i).length 6) (G i).length (zc (G i))
section
variable {W w w' : World} {n g : Nat} {G : Nat → List Nat}
theorem Lk.under (h : Lk W n g G w) (hb : Below w.heap.size w w') : Lk W n g G w' := by
  obtain ⟨cs, h1, h2, h3⟩ := h.tab
  exact ⟨h.below.trans (hb.mono h.below.size), h.g0, ⟨cs, h1.under hb, h2, h3⟩, fun i hi => own_under (h.rws i hi) hb⟩
theorem Lk.row (h : Lk W n g G w) {i : Nat} (hi : i < cn n) : w.cell? ⟨g, i, none⟩ = some (.slice (some ⟨g + 1 + i, 0, none⟩) (G i).length 6) ∧ w.frozen? ⟨g, i, none⟩ = false := by
  obtain ⟨cs, h1, h2, h3⟩ := h.tab
  exact ⟨(h1.cell i).trans (h3 i hi), h1.thaw i⟩
theorem Lk.lst (h : Lk W n g G w) {i : Nat} (hi : i < cn n) : Cs w (g + 1 + i) (G i) := cs_of_own (h.rws i hi) rfl
/-- One list has grown in its place. -/
theorem Lk.grown (h : Lk W n g G w) {a b : Nat} (ha : a < cn n) (ho : w'.ownsRow W.heap.size 3 1 (.slice (some ⟨g + 1 + a, 0, none⟩) ((G a).length + 1) 6) ((G a).length + 1) (zc (G a) ++ [.int .i64 (b : Int)])) (hg : w.grownBy w' (some (g + 1 + a))) :
    (w'.cell? ⟨g, a, none⟩ = some (.slice (some ⟨g + 1 + a, 0, none⟩) (G a).length 6) ∧ w'.frozen? ⟨g, a, none⟩ = false) ∧ Lk W n g (fun i => if i = a then G i ++ [b] else G i) (w'.setCell ⟨g, a, none⟩ (.slice (some ⟨g + 1 + a, 0, none⟩) ((G a).length + 1) 6)) := by
  obtain ⟨cs, h1, h2, h3⟩ := h.tab
  have r1 : Row w' g 23 cs := h1.grown hg (fun e => by have := Option.some.inj e; omega)
  have g0 := h.g0
  have hs := grown_one w' g a (.slice (some ⟨g + 1 + a, 0, none⟩) ((G a).length + 1) 6)
  refine ⟨⟨(r1.cell a).trans (h3 a ha), r1.thaw a⟩, ⟨below_by (below_by h.below h.below.size (by omega) hg) (Nat.le_trans h.below.size hg.size) g0 hs, g0, ⟨_, r1.put a _, by simpa using h2, fun i hi => ?_⟩, fun i hi => ?_⟩⟩
  · by_cases e : i = a
    · subst e
      rw [Array.getElem?_setIfInBounds, if_pos rfl, if_pos (by omega)]
      simp
    · rw [Array.getElem?_setIfInBounds, if_neg (fun e' => e e'.symm), if_neg e]
      exact h3 i hi
  · by_cases e : i = a
    · subst e
      rw [if_pos rfl, zc_snoc, List.length_append]
      exact ho.kept hs (.inr (by simp [Value.ownBlock]; omega))
    · rw [if_neg e]
      exact ((h.rws i hi).kept hg (.inr (by simp [Value.ownBlock]; omega))).kept hs (.inr (by simp [Value.ownBlock]; omega))
theorem Lk.same {G' : Nat → List Nat} (h : Lk W n g G w) (e : ∀ i, G i = G' i) : Lk W n g G' w := by
  have : G = G' := funext e
  rw [← this]; exact h
end
theorem infoInt0 : (Tryz.prog.info? 3).map (fun i => (i.zero, i.size, i.bytes)) = some (some (.int .i64 0), 1, 8) := by kernel_rfl
theorem contains_zs (l : List Nat) (b : Nat) : ((zs l).take l.length).contains (b : Int) = decide (b ∈ l) := by
  rw [List.take_of_length_le (by rw [zs_len]; exact Nat.le_refl _), Bool.eq_iff_iff, List.contains_iff_mem, decide_eq_true_eq]
  unfold zs
  rw [List.mem_map]
  constructor
  · rintro ⟨x, hx, e⟩
    obtain rfl : x = b := by omega
    exact hx
  · intro hb
    exact ⟨b, hb, rfl⟩
theorem contains_any (w : World) (g c b : Nat) (l : List Nat) (h : Cs w g l) (hl : l.length ≤ 9223372036854775807) : Calls Tryz.prog 42 #[.slice (some ⟨g, 0, none⟩) l.length c, .int .i64 b] w fun e w' => e = .returned (.bool (decide (b ∈ l))) ∧ Below w.heap.size w w' := by
  have hcon := Any.slices_Contains_int Tryz.lContains g 0 l.length c (zs l) b w (by rw [zs_len]; exact Nat.le_refl _) hl (fun j hj => by
    rw [zs_len] at hj
    rw [Nat.zero_add, h.at_ j hj, List.getD_eq_getElem?_getD, List.getElem?_eq_getElem (by rw [zs_len]; exact hj)]
    simp [zs])
  rw [contains_zs] at hcon
  refine Calls.mono hcon ?_
  rintro e w' ⟨he, hw⟩
  exact ⟨he, by first | (subst hw; exact Below.refl _ _) | (obtain ⟨q, rfl⟩ := hw; exact ⟨rfl, rfl, rfl, Nat.le_refl _, fun _ _ => rfl⟩)⟩
/-- All blocks but two are as they were. -/
def Fr (g a : Nat) (w w' : World) : Prop := w.heap.size ≤ w'.heap.size ∧ ∀ i, i < w.heap.size → i ≠ g → i ≠ g + 1 + a → w'.heap[i]? = w.heap[i]?
theorem Fr.below {g a : Nat} {w w' : World} (h : Below w.heap.size w w') : Fr g a w w' := ⟨h.size, fun i hi _ _ => h.block i hi⟩
theorem Fr.grown {g a : Nat} {w w' w2 : World} (h : Fr g a w w') (hg : w'.grownBy w2 (some (g + 1 + a))) (v : Value) : Fr g a w (w2.setCell ⟨g, a, none⟩ v) :=
  ⟨Nat.le_trans h.1 (Nat.le_trans hg.size (by simp [World.setCell])), fun i hi h1 h2 => (Below.heap_setCell w2 ⟨g, a, none⟩ v i (by simpa using h1)).trans ((hg.block i (Nat.lt_of_lt_of_le hi h.1) (fun e => h2 (Option.some.inj e))).trans (h.2 i hi h1 h2))⟩
def LinkR (n g a : Nat) (W w0 : World) (G : Nat → List Nat) (e : Ending) (w : World) : Prop := e = .returned (.tuple #[]) ∧ Lk W n g G w ∧ Fr g a w0 w
set_option maxRecDepth 100000 in
set_option maxHeartbeats 4000000 in
theorem link_any (W : World) (n g a b : Nat) (P : List (Nat × Nat)) (w : World) (h : Lk W n g (Lat.lk P) w) (hn : Lat.frq n) (hs : Lat.Some n P) (hp : (a, b) ∈ Lat.pairs n) (ha : a < cn n) (hb : b < cn n) :
    Calls Tryz.prog 112 #[.slice (some ⟨g, 0, none⟩) (cn n) (cn n), .int .i64 a, .int .i64 b] w (LinkR n g a W w (Lat.lk (P ++ [(a, b)]))) := by
  have hc := cn_le hn
  have a0 : (0 : Int) ≤ (a : Int) := by omega
  have a1 : (a : Int) < (cn n : Int) := by omega
  have b1 : (b : Int) ≤ 642 := by omega
  obtain ⟨i0, hi, hz0, hz1, hz2⟩ := info_parts infoInt0
  have hl6 := Lat.lk_len hn ha hs
  have HA := Lib.hid ha
  obtain ⟨q0, q1⟩ := h.row ha
  have HC := Lib.hid (h.lst ha)
  by_cases hm : b ∈ Lat.lk P a
  · have HD : Hid (decide (b ∈ Lat.lk P a) = true) := Lib.hid (decide_eq_true hm)
    have HE := Lib.hid (h.same (G' := Lat.lk (P ++ [(a, b)])) (fun i => by
      rw [Lat.lk_snoc]
      by_cases e : a = i
      · subst e; rw [if_pos rfl]; unfold Lat.addn; rw [if_pos hm]
      · rw [if_neg e]))
    clear h hm
    go_enter Tryz.func112, Tryz.ntmps112
    go_wp2_with fail
    refine (contains_any _ _ _ _ _ HC.out (by omega)).mono ?_
    rintro e w1 ⟨rfl, hb1⟩
    rw [HD.out]
    have HE1 := Lib.hid (HE.out.under hb1)
    have HF := Lib.hid (Fr.below (g := g) (a := a) hb1)
    clear hb1 HE HC q0 q1
    go_wp2_with fail
    go_end0
    exact ⟨rfl, HE1.out, HF.out⟩
  · have HD : Hid (decide (b ∈ Lat.lk P a) = false) := Lib.hid (decide_eq_false hm)
    have hroom := Lat.lk_room hn ha hs hp hm
    have HE := Lib.hid h
    have HG : Hid (∀ i, (if i = a then Lat.lk P i ++ [b] else Lat.lk P i) = Lat.lk (P ++ [(a, b)]) i) := Lib.hid (fun i => by
      rw [Lat.lk_snoc]
      by_cases e : a = i
      · subst e; rw [if_pos rfl, if_pos rfl]; unfold Lat.addn; rw [if_neg hm]
      · rw [if_neg (fun e' => e e'.symm), if_neg e])
    clear h hm
    go_enter Tryz.func112, Tryz.ntmps112
    go_wp2_with fail
    refine (contains_any _ _ _ _ _ HC.out (by omega)).mono ?_
    rintro e w1 ⟨rfl, hb1⟩
    rw [HD.out]
    have HE1 := Lib.hid (HE.out.under hb1)
    have HF := Lib.hid (Fr.below (g := g) (a := a) (hb1.trans (((Below.refl w1.heap.size w1).alloc (Nat.le_refl _) (.cells #[.int .i64 (b : Int)] 3)).mono hb1.size)))
    clear hb1 HE HC q0 q1
    obtain ⟨q0, q1⟩ := HE1.out.row HA.out
    have HE2 := Lib.hid (HE1.out.under ((Below.refl _ _).alloc (Nat.le_refl _) (.cells #[.int .i64 (b : Int)] 3)))
    clear HE1
    go_wp2_with (at_builtin; go_loud (refine wpList_append_own_spare _ rfl (.tmp 18) (.tmp 20) 23 rfl W.heap.size 3 i0 1 Tryz.underlying23 hi hz1 (g + 1 + a) (Lat.lk P a).length 6 (zc (Lat.lk P a)) rfl (HE2.out.rws a HA.out) ⟨w1.heap.size, 0, none⟩ 1 1 [.int .i64 (b : Int)] rfl rfl (World.news_of_block (cs := #[.int .i64 (b : Int)]) (t := 3) (fr := (0, 0)) (heap_alloc_new w1 _)) (by simp [Value.oneCell']) (by omega) ?_); intro w3 hown3 hgrow3; obtain ⟨⟨q2, q3⟩, hE⟩ := HE2.out.grown HA.out hown3 hgrow3; have HE3 := Lib.hid hE; have HF3 := Lib.hid (HF.out.grown hgrow3 (.slice (some ⟨g + 1 + a, 0, none⟩) ((Lat.lk P a).length + 1) 6)); clear HF hE hown3 hgrow3 q0 q1 HE2)
    go_end0
    exact ⟨rfl, HE3.out.same HG.out, HF3.out⟩
end Go.Proofs.YtejoabaanclcbaaGreat


