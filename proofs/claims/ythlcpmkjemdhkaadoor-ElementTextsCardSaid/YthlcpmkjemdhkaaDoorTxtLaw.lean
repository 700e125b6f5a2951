/- The walk of ElementTexts: for every reading, text, list, place and byte the law returns true, and what lay in memory is as it was. -/
import Derived.Test.YthlcpmkjemdhkaaDoorRBoth
import Derived.Test.YthlcpmkjemdhkaaDoorRSome
import Derived.Laws.IdiomStrings
namespace Go.Proofs.YthlcpmkjemdhkaaDoor
open Go.RowKit

/-- Block g holds n bytes that may be written. -/
def Bys (n : Nat) (w : World) (g : Nat) : Prop := ∃ (C : Array Value) (fr : Nat × Nat), w.heap[g]? = some (.cells C 5 fr) ∧ n ≤ fr.1 ∧ ∀ j, j < n → ∃ z : Int, C[j]? = some (.int .u8 z)
section
variable {n : Nat} {w w' : World} {g : Nat}
theorem Bys.at (h : Bys n w g) (j : Nat) (hj : j < n) : ∃ z : Int, w.cell? ⟨g, j, none⟩ = some (.int .u8 z) ∧ w.frozen? ⟨g, j, none⟩ = false := by
  obtain ⟨C, fr, h1, h2, h3⟩ := h
  obtain ⟨z, e⟩ := h3 j hj
  refine ⟨z, ?_, ?_⟩
  · unfold World.cell?; rw [h1]; exact e
  · unfold World.frozen?; rw [h1]; simp; omega
theorem Bys.set (h : Bys n w g) (k : Nat) (z : Int) : Bys n (w.setCell ⟨g, k, none⟩ (.int .u8 z)) g := by
  obtain ⟨C, fr, h1, h2, h3⟩ := h
  refine ⟨C.setIfInBounds k (.int .u8 z), fr, by simp [World.setCell, Array.getElem?_modify, h1], h2, fun j hj => ?_⟩
  obtain ⟨x, e⟩ := h3 j hj
  by_cases hk : k = j
  · subst hk
    refine ⟨z, ?_⟩
    have hlt := (Array.getElem?_eq_some_iff.1 e).1
    rw [Array.getElem?_setIfInBounds]; simp [hlt]
  · exact ⟨x, by rw [Array.getElem?_setIfInBounds]; simp [hk, e]⟩
theorem Bys.lt (h : Bys n w g) : g < w.heap.size := by
  obtain ⟨C, fr, h1, h2, h3⟩ := h
  exact (Array.getElem?_eq_some_iff.1 h1).1
theorem Bys.under (h : Bys n w g) (hb : Below w.heap.size w w') : Bys n w' g := by
  obtain ⟨C, fr, h1, h2, h3⟩ := h
  exact ⟨C, fr, (hb.block g (Bys.lt ⟨C, fr, h1, h2, h3⟩)).trans h1, h2, h3⟩
/-- What '[]byte(t)' lays. -/
theorem Bys.new (w : World) (s : ByteArray) (cap : Nat) : Bys s.size (w.alloc (.cells (bytesRow s cap) 5 ((bytesRow s cap).size, (bytesRow s cap).size + 1))) w.heap.size := by
  have hs : s.data.size = s.size := rfl
  refine ⟨_, _, heap_alloc_new w _, ?_, fun j hj => ?_⟩
  · show s.size ≤ (bytesRow s cap).size
    unfold bytesRow; simp only [Array.size_append, Array.size_map]; omega
  · exact ⟨_, bytesRow_at s cap j (by omega)⟩
/-- 'string(b)' of them is some text of n bytes, in every world that holds them as they are. -/
theorem Bys.text (h : Bys n w g) (cap : Nat) : ∃ s : ByteArray, s.size = n ∧ ∀ w', Below w.heap.size w w' →
    (convert 53 9 (.slice (some ⟨g, 0, none⟩) n cap)).run Tryd.prog w' = .ok (.string s) w' := by
  have hx : ∃ xs : List Int, xs.length = n ∧ ∀ i, i < n → w.cell? ⟨g, 0 + i, none⟩ = some (.int .u8 (xs.getD i 0)) := by
    refine ⟨(List.range n).map fun j => match w.cell? ⟨g, j, none⟩ with | some (.int .u8 z) => z | _ => 0, by simp, fun i hi => ?_⟩
    obtain ⟨z, e, -⟩ := h.at i hi
    rw [Nat.zero_add, e, List.getD_eq_getElem?_getD, List.getElem?_map, List.getElem?_range hi]
    simp [e]
  obtain ⟨xs, hl, hc⟩ := hx
  have hg := h.lt
  exact ⟨strOfNums xs, by rw [strOfNums_size, hl], fun w' hb => run_convert_bytes_arg (P := Tryd.prog) w' 53 5 Tryd.underlying53 Tryd.underlying5 g 0 n cap xs hl (fun i hi => (hb.cell (p := ⟨g, 0 + i, none⟩) hg).trans (hc i hi)) 9 Tryd.underlying9⟩
end
/-- A row of seven texts, none of them long. -/
def Seven (w : World) (q : Nat) : Prop := ∃ f0 f1 f2 f3 f4 f5 f6 : ByteArray, Row w q 9 #[.string f0, .string f1, .string f2, .string f3, .string f4, .string f5, .string f6] ∧ f0.size ≤ 100 ∧ f1.size ≤ 100 ∧ f2.size ≤ 100 ∧ f3.size ≤ 100 ∧ f4.size ≤ 100 ∧ f5.size ≤ 100 ∧ f6.size ≤ 100
theorem Seven.under {w w' : World} {q : Nat} (h : Seven w q) (hb : Below w.heap.size w w') : Seven w' q := by
  obtain ⟨f0, f1, f2, f3, f4, f5, f6, r, h⟩ := h
  exact ⟨f0, f1, f2, f3, f4, f5, f6, r.under hb, h⟩
theorem Seven.at {w : World} {q : Nat} (h : Seven w q) {j : Nat} (hj : j < 7) : ∃ f : ByteArray, w.cell? ⟨q, j, none⟩ = some (.string f) ∧ f.size ≤ 100 := by
  obtain ⟨f0, f1, f2, f3, f4, f5, f6, r, h0, h1, h2, h3, h4, h5, h6⟩ := h
  rcases (by omega : j = 0 ∨ j = 1 ∨ j = 2 ∨ j = 3 ∨ j = 4 ∨ j = 5 ∨ j = 6) with rfl | rfl | rfl | rfl | rfl | rfl | rfl
  · exact ⟨f0, (r.cell 0).trans rfl, h0⟩
  · exact ⟨f1, (r.cell 1).trans rfl, h1⟩
  · exact ⟨f2, (r.cell 2).trans rfl, h2⟩
  · exact ⟨f3, (r.cell 3).trans rfl, h3⟩
  · exact ⟨f4, (r.cell 4).trans rfl, h4⟩
  · exact ⟨f5, (r.cell 5).trans rfl, h5⟩
  · exact ⟨f6, (r.cell 6).trans rfl, h6⟩
attribute [local go_sem] eq_reading
set_option maxRecDepth 100000 in
set_option maxHeartbeats 8000000 in
theorem elementTexts_any (c0 v0 : Int) (s : ByteArray) (v : Value) (at_ by_ : Int) (w : World) (hE : Env w) (hl : ListIn w v) (hat : I64 at_) :
    Calls Tryd.prog 4 #[.agg #[.int .i64 c0, .int .i64 v0], .string s, v, .int .i64 at_, .int .u8 by_] w fun e w' => e = .returned (.bool true) ∧ Below w.heap.size w w' := by
  have b0 : Below w.heap.size w (w.alloc (.cells #[.int .i64 c0, .int .i64 v0] 47)) := (Below.refl _ _).alloc (Nat.le_refl _) _
  have r0 := Row.new w #[.int .i64 c0, .int .i64 v0] 47
  have hE0 := hE.under b0
  have hl0 := hl.under b0
  by_cases hlen : 60 < s.size
  · have hlen' : (60 : Int) < (s.size : Int) := by omega
    clear hl hl0 hat
    go_enter Tryd.func4, Tryd.ntmps4
    go_wp2_with fail
    refine (awake_from (w0 := w) _ hE0 b0).mono ?_
    rintro e w1 ⟨rfl, g1⟩
    go_wp2_with fail
    go_ret
    exact ⟨rfl, g1⟩
  · have hlen' : ¬ (60 : Int) < (s.size : Int) := by omega
    obtain ⟨tr, er, kf, kr⟩ := both_format c0 v0
    have KF := Lib.hid kf
    have KR := Lib.hid kr
    have HE := Lib.hid hE
    clear kf kr hl hE
    go_enter Tryd.func4, Tryd.ntmps4
    go_wp2_with fail
    generalize w.alloc (.cells #[.int .i64 c0, .int .i64 v0] 47) = W0 at *
    refine (new_any _ _ hl0).mono ?_
    rintro e w1 ⟨rfl, s1, -⟩
    have HB0 := Lib.hid b0
    have HR0 := Lib.hid r0
    have HE0 := Lib.hid hE0
    clear b0 r0 hE0 hl0
    go_wp2_with fail
    refine (range_any _ _ _ _ _ s1 (by omega) (by omega) (by omega) (by omega)).mono ?_
    rintro e w2 ⟨c, ⟨c1, c2⟩, rfl, s2, -⟩
    have hx : Elt.Ex c := ⟨c1, c2⟩
    go_wp2_with fail
    refine (some_any _ _ _ c s2 hx).mono ?_
    rintro e w3 ⟨rv, hv, rfl, s3, -⟩
    have b3 := HB0.out.trans (s3.below.mono HB0.out.size)
    have r3 := HR0.out.under s3.below
    have e3 := HE0.out.under s3.below
    clear s1 s2 s3 hx
    go_upto_region 5 with fail
    refine forget (fun Y => Below w.heap.size w Y ∧ Env Y ∧ Row Y w.heap.size 47 #[.int .i64 c0, .int .i64 v0] ∧ Row Y w3.heap.size 47 #[.int .i64 c, .int .i64 rv]) ⟨b3.alloc b3.size _, e3.alloc _, r3.alloc _, Row.new _ _ _⟩ ?_
    clear b3 r3 e3 HB0 HR0 HE0
    generalize w3.heap.size = gr at *
    rintro Y ⟨bY, eY, rY, pY⟩
    obtain ⟨q0, q1⟩ := row2 rY
    go_wp2_with fail
    refine (KF.out _ eY).mono ?_
    rintro e w4 ⟨rfl, g4⟩
    have b4 := bY.trans (g4.mono bY.size)
    have e4 := eY.under g4
    have r4 := rY.under g4
    have p4 := pY.under g4
    clear bY eY rY pY g4 q0 q1 KF
    obtain ⟨q0, q1⟩ := row2 r4
    go_wp2_with fail
    refine (KR.out _).mono ?_
    rintro e w5 ⟨rfl, g5⟩
    have b5 := b4.trans (g5.mono b4.size)
    have e5 := e4.under g5
    have p5 := p4.under g5
    clear b4 e4 r4 p4 g5 q0 q1 KR
    obtain ⟨q0, q1⟩ := row2 p5
    have HV := Lib.hid hv
    obtain ⟨l1, l2⟩ := Elt.tail_len hv
    have ht : (S (Elt.txt c rv)).size = 1 + (Elt.tail c rv).length := by rw [S_size]; unfold Elt.txt; rw [List.length_cons]; omega
    generalize (Elt.tail c rv).length = tl at *
    have HF := Lib.hid (fun W (hW : Env W) => format_yes c rv W hW HV.out)
    have HP := Lib.hid (fun W (hW : Env W) => parse_yes c rv W hW HV.out)
    clear hv
    generalize S (Elt.txt c rv) = t at *
    obtain ⟨ts, hts⟩ : ∃ ts, t.size = ts := ⟨_, rfl⟩
    have t5 : 5 ≤ ts := by omega
    have t6 : ts ≤ 6 := by omega
    clear ht l1 l2
    go_wp2_with fail
    refine (HF.out _ e5).mono ?_
    rintro e w6 ⟨rfl, g6⟩
    have b6 := b5.trans (g6.mono b5.size)
    have e6 := e5.under g6
    have p6 := p5.under g6
    clear b5 e5 p5 g6 q0 q1 HF
    go_wp2_with fail
    refine (HP.out _ e6).mono ?_
    rintro e w7 ⟨rfl, g7⟩
    have b7 := b6.trans (g7.mono b6.size)
    have e7 := e6.under g7
    have p7 := p6.under g7
    clear b6 e6 p6 g7 HP
    have y1 : (tr.toList == tr.toList) = true := beq_self_eq_true _
    have y2 : (er == er) = true := beq_self_eq_true _
    go_upto_region 9 with fail
    refine forget (fun Y => Below w.heap.size w Y ∧ Env Y ∧ Row Y gr 47 #[.int .i64 c, .int .i64 rv] ∧ Row Y w7.heap.size 47 #[.int .i64 c, .int .i64 rv]) ⟨b7.alloc b7.size _, e7.alloc _, p7.alloc _, Row.new _ _ _⟩ ?_
    clear b7 e7 p7
    generalize w7.heap.size = gp at *
    rintro Y ⟨bY, eY, pY, rY⟩
    obtain ⟨q0, q1⟩ := row2 pY
    obtain ⟨p0, p1⟩ := row2 rY
    go_upto_region 11 with fail
    clear q0 q1 p0 p1 pY rY y1 y2
    have kc := run_bytes_of_string (P := Tryd.prog) Y 9 53 5 t Tryd.underlying9 Tryd.underlying53 Tryd.underlying5
    go_upto_region 12 with fail
    have hg := bY.size
    refine forget (fun V => Below w.heap.size w V ∧ Env V ∧ Bys ts V Y.heap.size) ⟨bY.drew.alloc bY.size _, eY.drew.alloc _, by rw [← hts]; exact Bys.new Y.drew t _⟩ ?_
    clear bY eY kc
    generalize grownCap Y _ 0 5 = cap at *
    generalize Y.heap.size = g at *
    rintro Y ⟨bY, eY, BY⟩
    have HM := Lib.hid (fun W => mod_any at_ (ts : Int) W hat (by omega) (by omega))
    have o1 : 0 ≤ at_ % (ts : Int) := Int.emod_nonneg _ (by omega)
    have o2 : at_ % (ts : Int) < (ts : Int) := Int.emod_lt_of_pos _ (by omega)
    clear hat
    go_wp2_with fail
    refine (HM.out _).mono ?_
    rintro e w8 ⟨rfl, rfl⟩
    clear HM
    generalize at_ % (ts : Int) = k at *
    obtain ⟨j, rfl⟩ := Int.eq_ofNat_of_zero_le o1
    have o3 : j < ts := by omega
    obtain ⟨z, hz, hfz⟩ := BY.at j o3
    go_upto_region 13 with fail
    refine forget (fun Z => Below w.heap.size w Z ∧ Bys ts Z g) ⟨bY.setCell hg _, BY.set j _⟩ ?_
    clear bY eY BY hz hfz o1 o2 o3 hg
    rintro Z ⟨bZ, BZ⟩
    obtain ⟨x, hx, kx⟩ := BZ.text cap
    have BZ' := Lib.hid bZ
    clear BZ bZ
    obtain ⟨a0, h0⟩ : ∃ a, t.extract 0 1 = a := ⟨_, rfl⟩
    obtain ⟨a1, h1⟩ : ∃ a, t.extract 1 ts = a := ⟨_, rfl⟩
    obtain ⟨a2, h2⟩ : ∃ a, t.extract 0 (ts - 1) = a := ⟨_, rfl⟩
    have z0 : a0.size = 1 := by rw [← h0, ByteArray.size_extract]; omega
    have z1 : a1.size = ts - 1 := by rw [← h1, ByteArray.size_extract]; omega
    have z2 : a2.size = ts - 1 := by rw [← h2, ByteArray.size_extract]; omega
    have kx' : ∀ wx, Below Z.heap.size Z wx → (convert 53 9 (.slice (some ⟨g, 0, none⟩) ts cap)).run Tryd.prog wx = .ok (.string x) wx := kx
    clear kx
    have i1 : (1 : Int) ≤ (ts : Int) := by omega
    have i2 : (0 : Int) ≤ (ts : Int) - 1 := by omega
    have i3 : (ts : Int) - 1 ≤ (ts : Int) := by omega
    have i4 : (ts : Int) ≤ (ts : Int) := by omega
    have n1 : ¬ 9223372036854775807 < ts + 1 := by omega
    have n2 : ¬ 9223372036854775807 < 2 + (ts - 1) := by omega
    have n3 : ¬ 9223372036854775807 < 1 + 1 + (ts - 1) := by omega
    have m1 : IntKind.i64.wrap ((ts : Int) - 1) = (ts : Int) - 1 := IntWalk.i64_in _ (by omega)
    have m2 : ((ts : Int) - 1).toNat = ts - 1 := by omega
    refine wp_region_held_drew (S := fun wx : World => Below Z.heap.size Z wx) (by kernel_rfl) (Below.refl Z.heap.size Z).drew (fun hHeld => ?_)
    refine wpAnyH_take (i := 0) (oi := ⟨some 91, _, _, _, _, none⟩) (v := ?_) rfl (by kernel_rfl) (by kernel_rfl) (by kernel_rfl) (fun _ _ _ h => h) (Or.inl ⟨by rfl, ?_⟩) (by assumption) ?_
    case refine_2 => (intro wx hSx; (try dsimp only at hSx); go_simp; first | done | with_reducible rfl)
    try simp only [Act.put, List.setIfInBounds_toArray, List.set_cons_zero, List.set_cons_succ]
    refine wpAnyH_take (i := 1) (oi := ⟨some 92, _, _, _, _, none⟩) (v := ?_) rfl (by kernel_rfl) (by kernel_rfl) (by kernel_rfl) (fun _ _ _ h => h) (Or.inl ⟨by rfl, ?_⟩) (by assumption) ?_
    case refine_2 => (intro wx hSx; (try dsimp only at hSx); go_simp; first | done | with_reducible rfl)
    try simp only [Act.put, List.setIfInBounds_toArray, List.set_cons_zero, List.set_cons_succ]
    refine wpAnyH_take (i := 2) (oi := ⟨some 93, _, _, _, _, none⟩) (v := ?_) rfl (by kernel_rfl) (by kernel_rfl) (by kernel_rfl) (fun _ _ _ h => h) (Or.inl ⟨by rfl, ?_⟩) (by assumption) ?_
    case refine_2 =>
      intro wx hSx
      have hk := kx' wx hSx
      (try dsimp only at hSx)
      go_simp
      with_reducible rfl
    try simp only [Act.put, List.setIfInBounds_toArray, List.set_cons_zero, List.set_cons_succ]
    refine wpAnyH_take (i := 3) (oi := ⟨some 94, _, _, _, _, none⟩) (v := ?_) rfl (by kernel_rfl) (by kernel_rfl) (by kernel_rfl) (fun _ _ _ h => h) (Or.inl ⟨by rfl, ?_⟩) (by assumption) ?_
    case refine_2 => (intro wx hSx; (try dsimp only at hSx); go_simp; first | done | with_reducible rfl)
    try simp only [Act.put, List.setIfInBounds_toArray, List.set_cons_zero, List.set_cons_succ]
    refine wpAnyH_take (i := 4) (oi := ⟨some 95, _, _, _, _, none⟩) (v := ?_) rfl (by kernel_rfl) (by kernel_rfl) (by kernel_rfl) (fun _ _ _ h => h) (Or.inl ⟨by rfl, ?_⟩) (by assumption) ?_
    case refine_2 => (intro wx hSx; (try dsimp only at hSx); go_simp; first | done | with_reducible rfl)
    try simp only [Act.put, List.setIfInBounds_toArray, List.set_cons_zero, List.set_cons_succ]
    refine wpAnyH_take (i := 5) (oi := ⟨some 96, _, _, _, _, none⟩) (v := ?_) rfl (by kernel_rfl) (by kernel_rfl) (by kernel_rfl) (fun _ _ _ h => h) (Or.inl ⟨by rfl, ?_⟩) (by assumption) ?_
    case refine_2 => (intro wx hSx; (try dsimp only at hSx); go_simp; first | done | with_reducible rfl)
    try simp only [Act.put, List.setIfInBounds_toArray, List.set_cons_zero, List.set_cons_succ]
    refine wpAnyH_take (i := 6) (oi := ⟨some 97, _, _, _, _, none⟩) (v := ?_) rfl (by kernel_rfl) (by kernel_rfl) (by kernel_rfl) (fun _ _ _ h => h) (Or.inl ⟨by rfl, ?_⟩) (by assumption) ?_
    case refine_2 => (intro wx hSx; (try dsimp only at hSx); go_simp; first | done | with_reducible rfl)
    try simp only [Act.put, List.setIfInBounds_toArray, List.set_cons_zero, List.set_cons_succ]
    refine wpAnyH_take (i := 7) (oi := ⟨some 98, _, _, _, _, none⟩) (v := ?_) rfl (by kernel_rfl) (by kernel_rfl) (by kernel_rfl) (fun _ _ _ h => h) (Or.inl ⟨by rfl, ?_⟩) (by assumption) ?_
    case refine_2 => (intro wx hSx; (try dsimp only at hSx); go_simp; first | done | with_reducible rfl)
    try simp only [Act.put, List.setIfInBounds_toArray, List.set_cons_zero, List.set_cons_succ]
    refine wpAnyH_take (i := 8) (oi := ⟨some 99, _, _, _, _, none⟩) (v := ?_) rfl (by kernel_rfl) (by kernel_rfl) (by kernel_rfl) (fun _ _ _ h => h) (Or.inl ⟨by rfl, ?_⟩) (by assumption) ?_
    case refine_2 => (intro wx hSx; (try dsimp only at hSx); go_simp; first | done | with_reducible rfl)
    try simp only [Act.put, List.setIfInBounds_toArray, List.set_cons_zero, List.set_cons_succ]
    refine wpAnyH_take (i := 9) (oi := ⟨some 100, _, _, _, _, none⟩) (v := ?_) rfl (by kernel_rfl) (by kernel_rfl) (by kernel_rfl) (fun _ _ _ h => h) (Or.inl ⟨by rfl, ?_⟩) (by assumption) ?_
    case refine_2 => (intro wx hSx; (try dsimp only at hSx); go_simp; first | done | with_reducible rfl)
    try simp only [Act.put, List.setIfInBounds_toArray, List.set_cons_zero, List.set_cons_succ]
    refine wpAnyH_take (i := 10) (oi := ⟨some 101, _, _, _, _, none⟩) (v := ?_) rfl (by kernel_rfl) (by kernel_rfl) (by kernel_rfl) (fun _ _ _ h => h) (Or.inl ⟨by rfl, ?_⟩) (by assumption) ?_
    case refine_2 => (intro wx hSx; (try dsimp only at hSx); go_simp; first | done | with_reducible rfl)
    try simp only [Act.put, List.setIfInBounds_toArray, List.set_cons_zero, List.set_cons_succ]
    refine wpAnyH_take (i := 11) (oi := ⟨some 102, _, _, _, _, none⟩) (v := ?_) rfl (by kernel_rfl) (by kernel_rfl) (by kernel_rfl) (fun _ _ _ h => h) (Or.inl ⟨by rfl, ?_⟩) (by assumption) ?_
    case refine_2 => (intro wx hSx; (try dsimp only at hSx); go_simp; first | done | with_reducible rfl)
    try simp only [Act.put, List.setIfInBounds_toArray, List.set_cons_zero, List.set_cons_succ]
    refine wpAnyH_take (i := 12) (oi := ⟨some 103, _, _, _, _, none⟩) (v := ?_) rfl (by kernel_rfl) (by kernel_rfl) (by kernel_rfl) (fun _ _ _ h => h) (Or.inl ⟨by rfl, ?_⟩) (by assumption) ?_
    case refine_2 => (intro wx hSx; (try dsimp only at hSx); go_simp; first | done | with_reducible rfl)
    try simp only [Act.put, List.setIfInBounds_toArray, List.set_cons_zero, List.set_cons_succ]
    refine wpAnyH_take (i := 13) (oi := ⟨some 104, _, _, _, _, none⟩) (v := ?_) rfl (by kernel_rfl) (by kernel_rfl) (by kernel_rfl) (fun _ _ _ h => h) (Or.inl ⟨by rfl, ?_⟩) (by assumption) ?_
    case refine_2 => (intro wx hSx; (try dsimp only at hSx); go_simp; first | done | with_reducible rfl)
    try simp only [Act.put, List.setIfInBounds_toArray, List.set_cons_zero, List.set_cons_succ]
    refine wpAnyH_take (i := 14) (oi := ⟨some 105, _, _, _, _, none⟩) (v := ?_) rfl (by kernel_rfl) (by kernel_rfl) (by kernel_rfl) (fun _ _ _ h => h) (Or.inl ⟨by rfl, ?_⟩) (by assumption) ?_
    case refine_2 => (intro wx hSx; (try dsimp only at hSx); go_simp; first | done | with_reducible rfl)
    try simp only [Act.put, List.setIfInBounds_toArray, List.set_cons_zero, List.set_cons_succ]
    refine wpAnyH_take (i := 15) (oi := ⟨some 106, _, _, _, _, none⟩) (v := ?_) rfl (by kernel_rfl) (by kernel_rfl) (by kernel_rfl) (fun _ _ _ h => h) (Or.inl ⟨by rfl, ?_⟩) (by assumption) ?_
    case refine_2 => (intro wx hSx; (try dsimp only at hSx); go_simp; first | done | with_reducible rfl)
    try simp only [Act.put, List.setIfInBounds_toArray, List.set_cons_zero, List.set_cons_succ]
    refine wpAnyH_take (i := 16) (oi := ⟨some 107, _, _, _, _, none⟩) (v := ?_) rfl (by kernel_rfl) (by kernel_rfl) (by kernel_rfl) (fun _ _ _ h => h) (Or.inl ⟨by rfl, ?_⟩) (by assumption) ?_
    case refine_2 => (intro wx hSx; (try dsimp only at hSx); go_simp; first | done | with_reducible rfl)
    try simp only [Act.put, List.setIfInBounds_toArray, List.set_cons_zero, List.set_cons_succ]
    refine wpAnyH_take (i := 17) (oi := ⟨some 108, _, _, _, _, none⟩) (v := ?_) rfl (by kernel_rfl) (by kernel_rfl) (by kernel_rfl) (fun _ _ _ h => h) (Or.inl ⟨by rfl, ?_⟩) (by assumption) ?_
    case refine_2 => (intro wx hSx; (try dsimp only at hSx); go_simp; first | done | with_reducible rfl)
    try simp only [Act.put, List.setIfInBounds_toArray, List.set_cons_zero, List.set_cons_succ]
    refine wpAnyH_take (i := 18) (oi := ⟨some 109, _, _, _, _, none⟩) (v := ?_) rfl (by kernel_rfl) (by kernel_rfl) (by kernel_rfl) (fun _ _ _ h => h) (Or.inl ⟨by rfl, ?_⟩) (by assumption) ?_
    case refine_2 => (intro wx hSx; (try dsimp only at hSx); go_simp; first | done | with_reducible rfl)
    try simp only [Act.put, List.setIfInBounds_toArray, List.set_cons_zero, List.set_cons_succ]
    refine wpAnyH_take (i := 19) (oi := ⟨some 110, _, _, _, _, none⟩) (v := ?_) rfl (by kernel_rfl) (by kernel_rfl) (by kernel_rfl) (fun _ _ _ h => h) (Or.inl ⟨by rfl, ?_⟩) (by assumption) ?_
    case refine_2 => (intro wx hSx; (try dsimp only at hSx); go_simp; first | done | with_reducible rfl)
    try simp only [Act.put, List.setIfInBounds_toArray, List.set_cons_zero, List.set_cons_succ]
    refine wpAnyH_take (i := 20) (oi := ⟨some 111, _, _, _, _, none⟩) (v := ?_) rfl (by kernel_rfl) (by kernel_rfl) (by kernel_rfl) (fun _ _ _ h => h) (Or.inl ⟨by rfl, ?_⟩) (by assumption) ?_
    case refine_2 => (intro wx hSx; (try dsimp only at hSx); go_simp; first | done | with_reducible rfl)
    try simp only [Act.put, List.setIfInBounds_toArray, List.set_cons_zero, List.set_cons_succ]
    refine wpAnyH_take (i := 21) (oi := ⟨some 112, _, _, _, _, none⟩) (v := ?_) rfl (by kernel_rfl) (by kernel_rfl) (by kernel_rfl) (fun _ _ _ h => h) (Or.inl ⟨by rfl, ?_⟩) (by assumption) ?_
    case refine_2 => (intro wx hSx; (try dsimp only at hSx); go_simp; first | done | with_reducible rfl)
    try simp only [Act.put, List.setIfInBounds_toArray, List.set_cons_zero, List.set_cons_succ]
    refine wpAnyH_take (i := 24) (oi := ⟨some 115, _, _, _, _, none⟩) (v := ?_) rfl (by kernel_rfl) (by kernel_rfl) (by kernel_rfl) (fun _ _ _ h => h) (Or.inl ⟨by rfl, ?_⟩) (by assumption) ?_
    case refine_2 => (intro wx hSx; (try dsimp only at hSx); go_simp; first | done | with_reducible rfl)
    try simp only [Act.put, List.setIfInBounds_toArray, List.set_cons_zero, List.set_cons_succ]
    refine wpAnyH_ready (rs := [22]) (by kernel_rfl) (by simp) ?_
    refine AllReadyH.cons rfl (fun K hK => ?_) AllReadyH.nil
    go_simp
    refine hK.out _ _ ((Below.refl Z.heap.size Z).drew.alloc (Nat.le_refl _) _) (fun hHeld2 => ?_)
    clear hK K hHeld
    try simp only [Act.put, List.setIfInBounds_toArray, List.set_cons_zero, List.set_cons_succ]
    refine wpAnyH_take (i := 23) (oi := ⟨some 114, _, _, _, _, none⟩) (v := ?_) rfl (by kernel_rfl) (by kernel_rfl) (by kernel_rfl) (fun _ _ _ h => h) (Or.inl ⟨by rfl, ?_⟩) (by assumption) ?_
    case refine_2 => (intro wx hSx; (try dsimp only at hSx); go_simp; first | done | with_reducible rfl)
    try simp only [Act.put, List.setIfInBounds_toArray, List.set_cons_zero, List.set_cons_succ]
    refine wpAnyH_done (by kernel_rfl) ?_ _
    go_wp2_with fail
    have rS := Row.new Z #[.string s, .string x, .string (t ++ ⟨#[48]⟩), .string (a0 ++ ⟨#[48]⟩ ++ a1), .string (a0 ++ ⟨#[45]⟩ ++ a1), .string a2, .string ⟨#[69, 45, 48, 48, 48, 48]⟩] 9
    have hd1 : (⟨#[48]⟩ : ByteArray).size = 1 := rfl
    have hd2 : (⟨#[45]⟩ : ByteArray).size = 1 := rfl
    have hd3 : (⟨#[69, 45, 48, 48, 48, 48]⟩ : ByteArray).size = 6 := rfl
    have S7 : Seven (Z.alloc (.cells #[.string s, .string x, .string (t ++ ⟨#[48]⟩), .string (a0 ++ ⟨#[48]⟩ ++ a1), .string (a0 ++ ⟨#[45]⟩ ++ a1), .string a2, .string ⟨#[69, 45, 48, 48, 48, 48]⟩] 9)) Z.heap.size :=
      ⟨_, _, _, _, _, _, _, rS, by omega, by omega, by simp only [ByteArray.size_append]; omega, by simp only [ByteArray.size_append]; omega, by simp only [ByteArray.size_append]; omega, by omega, by omega⟩
    have B7 := BZ'.out.alloc BZ'.out.size (.cells #[.string s, .string x, .string (t ++ ⟨#[48]⟩), .string (a0 ++ ⟨#[48]⟩ ++ a1), .string (a0 ++ ⟨#[45]⟩ ++ a1), .string a2, .string ⟨#[69, 45, 48, 48, 48, 48]⟩] 9)
    have HS := Lib.hid S7
    have HB := Lib.hid B7
    clear rS S7 B7 hd1 hd2 hd3 kx' hHeld2 n1 n2 n3 m1 m2 i1 i2 i3 i4 z0 z1 z2 h0 h1 h2 hx BZ' hts
    go_loopw [115] (fun t wr => ∃ j : Nat, j ≤ 7 ∧ t = .int .i64 j ∧ Below w.heap.size w wr ∧ Seven wr Z.heap.size) (fun t _ => 7 - (intOf t).toNat)
    case atStart => exact ⟨0, by omega, rfl, HB.out.drew, HS.out⟩
    case round =>
      clear HS HB
      obtain ⟨j, hj, rfl, br, sr⟩ := hrel
      by_cases hj7 : j < 7
      · have j0 : (0 : Int) ≤ (j : Int) := by omega
        have j1 : (j : Int) < 7 := by omega
        obtain ⟨f, hf, hfs⟩ := sr.at hj7
        obtain ⟨u, u', r, kp, kq⟩ := both_parse f (by omega)
        have KP := Lib.hid kp; clear kp
        have KQ := Lib.hid kq; clear kq
        have HR := Lib.hid br; clear br
        have SR := Lib.hid sr; clear sr
        go_wp2_with fail
        refine (KP.out _ (HE.out.under HR.out)).mono ?_
        rintro e v7 ⟨rfl, g7⟩
        have b7 := HR.out.trans (g7.mono HR.out.size)
        have s7 := SR.out.under g7
        clear g7 hf HR SR KP
        go_upto_region 17 with fail
        refine forget (fun Y => Below w.heap.size w Y ∧ Seven Y Z.heap.size ∧ Row Y v7.heap.size 47 #[.int .i64 u, .int .i64 u']) ⟨b7.alloc b7.size _, s7.under ((Below.refl _ _).alloc (Nat.le_refl _) _), Row.new _ _ _⟩ ?_
        clear b7 s7
        generalize v7.heap.size = g24 at *
        rintro Y ⟨bY, sY, rY⟩
        go_wp2_with fail
        refine (KQ.out _).mono ?_
        rintro e v8 ⟨rfl, g8⟩
        have b8 := bY.trans (g8.mono bY.size)
        have s8 := sY.under g8
        have r8 := rY.under g8
        clear g8 bY sY rY KQ
        go_upto_region 18 with fail
        refine forget (fun Y => Below w.heap.size w Y ∧ Seven Y Z.heap.size ∧ Row Y g24 47 #[.int .i64 u, .int .i64 u'] ∧ Row Y v8.heap.size 47 #[.int .i64 u, .int .i64 u']) ⟨b8.alloc b8.size _, s8.under ((Below.refl _ _).alloc (Nat.le_refl _) _), r8.alloc _, Row.new _ _ _⟩ ?_
        clear b8 s8 r8
        generalize v8.heap.size = g26 at *
        rintro Y ⟨bY, sY, rY, tY⟩
        obtain ⟨q0, q1⟩ := row2 rY
        obtain ⟨p0, p1⟩ := row2 tY
        have e1 : (u == u) = true := beq_self_eq_true _
        have e2 : (u' == u') = true := beq_self_eq_true _
        have e3 : (r == r) = true := beq_self_eq_true _
        have HR := Lib.hid bY; clear bY
        have SR := Lib.hid sY; clear sY rY tY
        go_wp2_with fail
        go_roundw
        case rel => exact ⟨j + 1, by omega, by go_num, HR.out, SR.out⟩
        case measure => simp [intOf]; omega
      · have j1 : ¬ (j : Int) < 7 := by omega
        have HR := Lib.hid br; clear br sr
        go_wp2_with fail
        refine (awake_from (w0 := w) _ (HE.out.under HR.out) HR.out).mono ?_
        rintro e v9 ⟨rfl, g9⟩
        have B9 := Lib.hid g9; clear g9
        go_wp2_with fail
        go_ret
        exact ⟨rfl, B9.out⟩
end Go.Proofs.YthlcpmkjemdhkaaDoor
