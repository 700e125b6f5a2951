/- The contracts of compared, firsts, tooMoist and tooFast. -/
import Derived.Test.YtngbjccfmglbaaaDoorLmB
import Derived.Test.YtngbjccfmglbaaaDoorVal2
import Derived.Test.YtngbjccfmglbaaaDoorWith
namespace Go.Proofs.YtngbjccfmglbaaaDoor
open Go.RowKit

/-- Readings whose values are small. -/
def Smalls (L : List Elt.R) : Prop := L.length ≤ 100 ∧ ∀ r ∈ L, -100000 ≤ r.2 ∧ r.2 ≤ 100000
theorem fnd_mem {L : List Elt.R} {c v : Int} (h : Elt.fnd L c = some v) : (c, v) ∈ L := by
  unfold Elt.fnd at h
  obtain ⟨r, hr, rfl⟩ := Option.map_eq_some_iff.1 h
  have h1 := List.find?_some hr
  have h2 := List.mem_of_find?_eq_some hr
  obtain ⟨a, b⟩ := r
  obtain rfl : a = c := by simpa using h1
  exact h2
theorem Smalls.fnd {L : List Elt.R} (h : Smalls L) (c : Int) : -100000 ≤ (Elt.fnd L c).getD 0 ∧ (Elt.fnd L c).getD 0 ≤ 100000 := by
  cases hf : Elt.fnd L c with
  | none => exact ⟨by decide, by decide⟩
  | some v => exact h.2 _ (fnd_mem hf)
/-- What firsts answers. -/
def FstR (w : World) (L : List Elt.R) (c d : Int) (e : Ending) (w' : World) : Prop := e = .returned (.tuple #[.int .i64 ((Elt.fnd L c).getD 0), .int .i64 ((Elt.fnd L d).getD 0), .bool ((Elt.fnd L c).isSome && (Elt.fnd L d).isSome)]) ∧ Below w.heap.size w w'
set_option maxHeartbeats 1000000 in
theorem firsts_any (v : Value) (L : List Elt.R) (c d : Int) (w : World) (hL : RdIn w v L) :
    Calls Tryd.prog 30 #[v, .int .i64 c, .int .i64 d] w (FstR w L c d) := by
  have HL := Lib.hid hL
  clear hL
  go_enter Tryd.func30, Tryd.ntmps30
  go_wp2_with fail
  refine (find_any v L c _ HL.out).mono ?_
  rintro e w1 ⟨rfl, g1⟩
  have G1 := Lib.hid g1
  have HF := Lib.hid (find_any v L d _ (HL.out.under g1))
  have HR : Hid (∀ x y, Elt.fnd L c = x → Elt.fnd L d = y → FstR w L c d = fun e w' => e = .returned (.tuple #[.int .i64 (x.getD 0), .int .i64 (y.getD 0), .bool (x.isSome && y.isSome)]) ∧ Below w.heap.size w w') := Lib.hid (fun x y h1 h2 => by subst h1; subst h2; rfl)
  clear g1
  cases hc : Elt.fnd L c with
  | none =>
    have H1 := Lib.hid hc; clear hc
    simp only [Option.getD_none, Option.isSome_none]
    go_wp2_with fail
    refine HF.out.mono ?_
    rintro e w2 ⟨rfl, g2⟩
    have G2 := Lib.hid g2; clear g2
    obtain ⟨y, hy⟩ : ∃ y, Elt.fnd L d = y := ⟨_, rfl⟩
    rw [hy]
    have H2 := Lib.hid hy; clear hy
    go_wp2_with fail
    rw [HR.out _ _ H1.out H2.out]
    exact bodyPost_ret (v := .tuple #[.int .i64 0, .int .i64 (y.getD 0), .bool false]) (by simp [results, Tryd.results30, go_sem]) rfl ⟨rfl, G1.out.trans (G2.out.mono G1.out.size)⟩
  | some x =>
    have H1 := Lib.hid hc; clear hc
    simp only [Option.getD_some, Option.isSome_some]
    go_wp2_with fail
    refine HF.out.mono ?_
    rintro e w2 ⟨rfl, g2⟩
    have G2 := Lib.hid g2; clear g2
    obtain ⟨y, hy⟩ : ∃ y, Elt.fnd L d = y := ⟨_, rfl⟩
    rw [hy]
    have H2 := Lib.hid hy; clear hy
    go_wp2_with fail
    rw [HR.out _ _ H1.out H2.out]
    exact bodyPost_ret (v := .tuple #[.int .i64 x, .int .i64 (y.getD 0), .bool y.isSome]) (by simp [results, Tryd.results30, go_sem]) rfl ⟨rfl, G1.out.trans (G2.out.mono G1.out.size)⟩
set_option maxHeartbeats 1000000 in
theorem tooMoist_any (v : Value) (L : List Elt.R) (w : World) (hL : RdIn w v L) :
    Calls Tryd.prog 20 #[v] w fun e w' => e = .returned (.bool (Lm.wet L)) ∧ Below w.heap.size w w' := by
  have HD : Hid (∀ b : Bool, b = ((Elt.fnd L 2).isSome && (Elt.fnd L 3).isSome && decide ((Elt.fnd L 2).getD 0 < (Elt.fnd L 3).getD 0)) → Lm.wet L = b) := Lib.hid (fun b h => h.symm)
  go_enter Tryd.func20, Tryd.ntmps20
  go_wp2_with fail
  refine (firsts_any v L 2 3 _ hL).mono ?_
  rintro e w1 ⟨rfl, g1⟩
  have G1 := Lib.hid g1; clear g1
  generalize ((Elt.fnd L 2).isSome && (Elt.fnd L 3).isSome) = both at *
  generalize (Elt.fnd L 2).getD 0 = x at *
  generalize (Elt.fnd L 3).getD 0 = y at *
  cases both with
  | false =>
    go_wp2_with fail
    go_ret
    exact ⟨ret_bool (HD.out _ (by simp)).symm, G1.out⟩
  | true =>
    by_cases hxy : x < y
    · have H := Lib.hid hxy
      go_wp2_with fail
      go_ret
      exact ⟨ret_bool (HD.out _ (by simp [H.out])).symm, G1.out⟩
    · have H := Lib.hid hxy
      go_wp2_with fail
      go_ret
      exact ⟨ret_bool (HD.out _ (by simp)).symm, G1.out⟩
set_option maxHeartbeats 1000000 in
theorem tooFast_any (v : Value) (L : List Elt.R) (w : World) (hL : RdIn w v L) (hs : Smalls L) :
    Calls Tryd.prog 21 #[v] w fun e w' => e = .returned (.bool (Lm.storm L)) ∧ Below w.heap.size w w' := by
  have HD : Hid (∀ b : Bool, b = ((Elt.fnd L 4).isSome && (Elt.fnd L 5).isSome && decide (810000 < (Elt.fnd L 4).getD 0 * (Elt.fnd L 4).getD 0 + (Elt.fnd L 5).getD 0 * (Elt.fnd L 5).getD 0)) → Lm.storm L = b) := Lib.hid (fun b h => h.symm)
  have s4 := hs.fnd 4
  have s5 := hs.fnd 5
  go_enter Tryd.func21, Tryd.ntmps21
  go_wp2_with fail
  refine (firsts_any v L 4 5 _ hL).mono ?_
  rintro e w1 ⟨rfl, g1⟩
  have G1 := Lib.hid g1; clear g1
  clear hL hs
  generalize ((Elt.fnd L 4).isSome && (Elt.fnd L 5).isSome) = both at *
  generalize (Elt.fnd L 4).getD 0 = x at *
  generalize (Elt.fnd L 5).getD 0 = y at *
  have sq : ∀ z : Int, -100000 ≤ z ∧ z ≤ 100000 → 0 ≤ z * z ∧ z * z ≤ 10000000000 := fun z h => by
    have h1 : z.natAbs ≤ 100000 := by omega
    have h2 : z.natAbs * z.natAbs ≤ 100000 * 100000 := Nat.mul_le_mul h1 h1
    have h3 : ((z.natAbs * z.natAbs : Nat) : Int) = z * z := Int.natAbs_mul_self
    omega
  have q4 := sq x s4
  have q5 := sq y s5
  have x4 : IntKind.i64.wrap (x * x) = x * x := IntWalk.i64_in _ (by omega)
  have x5 : IntKind.i64.wrap (y * y) = y * y := IntWalk.i64_in _ (by omega)
  have x6 : IntKind.i64.wrap (x * x + y * y) = x * x + y * y := IntWalk.i64_in _ (by omega)
  clear sq s4 s5
  cases both with
  | false =>
    go_wp2_with fail
    go_ret
    exact ⟨ret_bool (HD.out _ (by simp)).symm, G1.out⟩
  | true =>
    by_cases hxy : 810000 < x * x + y * y
    · have H := Lib.hid hxy
      go_wp2_with fail
      go_ret
      exact ⟨ret_bool (HD.out _ (by simp [H.out])).symm, G1.out⟩
    · have H := Lib.hid hxy
      go_wp2_with fail
      go_ret
      exact ⟨ret_bool (HD.out _ (by simp)).symm, G1.out⟩
set_option maxRecDepth 100000 in
set_option maxHeartbeats 2000000 in
theorem compared_any (v : Value) (L : List Elt.R) (w : World) (hL : RdIn w v L) (hs : Smalls L) :
    Calls Tryd.prog 19 #[v] w fun e w' => ∃ u, e = .returned u ∧ Below w.heap.size w w' ∧ RdIn w' u L ∧ ∀ j, u.ownBlock = some j → w.heap.size ≤ j := by
  obtain ⟨i0, hi, hz0, hz1, hz2⟩ := info_parts infoReading
  obtain ⟨A, cap, rfl, h1, h2, -⟩ := id hL
  have HL := Lib.hid hL
  have HS0 := Lib.hid hs
  have hl : L.length ≤ 100 := hs.1
  clear hL hs
  go_enter Tryd.func19, Tryd.ntmps19
  go_wp2_with fail
  go_loopw [3, 8] (fun u t wr => ∃ k : Nat, k ≤ L.length ∧ t = .int .i64 k ∧ Wt w (L.take k) u wr) (fun _ t _ => L.length - (intOf t).toNat)
  case atStart => exact ⟨0, Nat.zero_le _, rfl, Below.refl _ _, World.ownsRow_nil _ _ _ _⟩
  case round =>
    obtain ⟨k, hk, rfl, hS⟩ := hrel
    by_cases hlt : k < L.length
    · have hR := HL.out.under hS.below
      obtain ⟨A', cap', e, -, -, hR⟩ := hR
      injection e with e1 e2 e3
      subst e1
      obtain ⟨g, off, rfl, hgl, c0, c1⟩ := hR k hlt
      have k0 : (0 : Int) ≤ (k : Int) := by omega
      have k1 : (k : Int) < (L.length : Int) := by omega
      have hsm := HS0.out.2 (L[k]) (List.getElem_mem hlt)
      have hml : (L.take k).length ≤ L.length := by rw [List.length_take]; omega
      have HN : Hid (L.take (k + 1) = L.take k ++ [L[k]]) := Lib.hid (by rw [List.take_add_one, List.getElem?_eq_getElem hlt]; rfl)
      clear hR e3
      generalize L[k] = x at *
      obtain ⟨a, b⟩ := x
      generalize hM : L.take k = M at *
      have HM := Lib.hid hM; clear hM
      have HS := Lib.hid hS; clear hS
      simp only at c0 c1 hsm
      go_upto_region 5 with fail
      refine forget (fun Y => Wt w M «u3» Y ∧ Row Y wr.heap.size 30 #[.int .i64 a, .int .i64 b]) ⟨HS.out.under ((Below.refl _ _).alloc (Nat.le_refl _) _), Row.new _ _ _⟩ ?_
      clear c0 c1 HS
      generalize wr.heap.size = gr at *
      rintro Y ⟨hS, rY⟩
      obtain ⟨p0, p1⟩ := row2 rY
      have HW := Lib.hid (within_any b (-100000) 100000 Y)
      have HD : Hid (decide (-100000 ≤ b ∧ b ≤ 100000) = true) := Lib.hid (decide_eq_true hsm)
      have HS := Lib.hid hS
      have RY := Lib.hid rY
      clear hS rY hsm
      go_wp2_with fail
      refine HW.out.mono ?_
      rintro e w2 ⟨rfl, g2⟩
      rw [HD.out]
      have S2 := HS.out.under g2
      have r2 := RY.out.under g2
      obtain ⟨p0, p1⟩ := row2 r2
      clear g2 HW HS RY r2
      have S3 := Lib.hid (S2.under ((Below.refl _ _).alloc (Nat.le_refl _) (.cells #[.int .i64 a, .int .i64 b] 30)))
      clear S2
      go_wp2_with (at_builtin; refine wpList_append_lies _ rfl (.tmp 16) (.tmp 18) 25 rfl w.heap.size 30 i0 _ 2 16 Tryd.underlying25 hi hz0 hz1 hz2 rfl (by decide) «u3» M.length (rdc M) rfl S3.out.own ⟨w2.heap.size, 0, none⟩ 1 1 [.int .i64 a, .int .i64 b] rfl rfl (World.news_of_block (cs := #[.int .i64 a, .int .i64 b]) (t := 30) (fr := (0, 0)) (heap_alloc_new w2 _)) (by simp [Value.oneCell']) (by omega) (by unfold maxLen; omega) (by omega) S3.out.below.size (w2.heap.size + 1) (by simp) ?_; intro g' cap' w4 hown4 hgrow4 hat4 hlt4; have S4 := Lib.hid (S3.out.more (x := (a, b)) hown4 hgrow4); clear hown4 hgrow4 hat4 hlt4)
      go_roundw
      case rel => exact ⟨k + 1, by omega, by go_num, by rw [HN.out]; exact S4.out⟩
      case measure => simp [intOf]; omega
    · have k1 : ¬ (k : Int) < (L.length : Int) := by omega
      have hke : L.take k = L := List.take_of_length_le (by omega)
      rw [hke] at hS
      have HS := Lib.hid hS; clear hS hke
      go_wp2_with fail
      go_ret
      exact ⟨_, rfl, HS.out.below, RdIn.own HS.out.own, fun j hj => (HS.out.own.lt j hj).1⟩
end Go.Proofs.YtngbjccfmglbaaaDoor
