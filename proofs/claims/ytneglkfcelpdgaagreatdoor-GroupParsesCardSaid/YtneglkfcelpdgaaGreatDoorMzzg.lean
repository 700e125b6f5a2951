/- The walk of GroupParses. -/
import Derived.Test.YtneglkfcelpdgaaGreatDoorMzzf
import Derived.Test.YtneglkfcelpdgaaGreatDoorMzw
import Derived.Test.YtneglkfcelpdgaaGreatDoorMzf
import Derived.Laws.BytesArg
import Derived.Laws.IdiomStrings
namespace Go.Proofs.YtneglkfcelpdgaaGreatDoor
open Go.RowKit

/-- Block g holds n bytes that may be written. -/
def Byq (n : Nat) (w : World) (g : Nat) : Prop := ∃ (C : Array Value) (fr : Nat × Nat), w.heap[g]? = some (.cells C 5 fr) ∧ n ≤ fr.1 ∧ ∀ j, j < n → ∃ z : Int, C[j]? = some (.int .u8 z)
section
variable {n : Nat} {w w' : World} {g : Nat}
theorem Byq.at (h : Byq n w g) (j : Nat) (hj : j < n) : ∃ z : Int, w.cell? ⟨g, j, none⟩ = some (.int .u8 z) ∧ w.frozen? ⟨g, j, none⟩ = false := by
  obtain ⟨C, fr, h1, h2, h3⟩ := h
  obtain ⟨z, e⟩ := h3 j hj
  refine ⟨z, ?_, ?_⟩
  · unfold World.cell?; rw [h1]; exact e
  · unfold World.frozen?; rw [h1]; simp; omega
theorem Byq.set (h : Byq n w g) (k : Nat) (z : Int) : Byq n (w.setCell ⟨g, k, none⟩ (.int .u8 z)) g := by
  obtain ⟨C, fr, h1, h2, h3⟩ := h
  refine ⟨C.setIfInBounds k (.int .u8 z), fr, by simp [World.setCell, Array.getElem?_modify, h1], h2, fun j hj => ?_⟩
  obtain ⟨x, e⟩ := h3 j hj
  by_cases hk : k = j
  · subst hk
    refine ⟨z, ?_⟩
    have hlt := (Array.getElem?_eq_some_iff.1 e).1
    rw [Array.getElem?_setIfInBounds]; simp [hlt]
  · exact ⟨x, by rw [Array.getElem?_setIfInBounds]; simp [hk, e]⟩
theorem Byq.lt (h : Byq n w g) : g < w.heap.size := by
  obtain ⟨C, fr, h1, h2, h3⟩ := h
  exact (Array.getElem?_eq_some_iff.1 h1).1
theorem Byq.under (h : Byq n w g) (hb : Below w.heap.size w w') : Byq n w' g := by
  obtain ⟨C, fr, h1, h2, h3⟩ := h
  exact ⟨C, fr, (hb.block g (Byq.lt ⟨C, fr, h1, h2, h3⟩)).trans h1, h2, h3⟩
/-- What '[]byte(t)' lays. -/
theorem Byq.new (w : World) (s : ByteArray) (cap : Nat) : Byq s.size (w.alloc (.cells (bytesRow s cap) 5 ((bytesRow s cap).size, (bytesRow s cap).size + 1))) w.heap.size := by
  have hs : s.data.size = s.size := rfl
  refine ⟨_, _, heap_alloc_new w _, ?_, fun j hj => ?_⟩
  · show s.size ≤ (bytesRow s cap).size
    unfold bytesRow; simp only [Array.size_append, Array.size_map]; omega
  · exact ⟨_, bytesRow_at s cap j (by omega)⟩
/-- 'string(b)' of them is some text of n bytes, in every world that holds them as they are. -/
theorem Byq.text (h : Byq n w g) (cap : Nat) : ∃ s : ByteArray, s.size = n ∧ ∀ w', Below w.heap.size w w' →
    (convert 45 9 (.slice (some ⟨g, 0, none⟩) n cap)).run Tryz.prog w' = .ok (.string s) w' := by
  have hx : ∃ xs : List Int, xs.length = n ∧ ∀ i, i < n → w.cell? ⟨g, 0 + i, none⟩ = some (.int .u8 (xs.getD i 0)) := by
    refine ⟨(List.range n).map fun j => match w.cell? ⟨g, j, none⟩ with | some (.int .u8 z) => z | _ => 0, by simp, fun i hi => ?_⟩
    obtain ⟨z, e, -⟩ := h.at i hi
    rw [Nat.zero_add, e, List.getD_eq_getElem?_getD, List.getElem?_map, List.getElem?_range hi]
    simp [e]
  obtain ⟨xs, hl, hc⟩ := hx
  have hg := h.lt
  exact ⟨strOfNums xs, by rw [strOfNums_size, hl], fun w' hb => run_convert_bytes_arg (P := Tryz.prog) w' 45 5 Tryz.underlying45 Tryz.underlying5 g 0 n cap xs hl (fun i hi => (hb.cell (p := ⟨g, 0 + i, none⟩) hg).trans (hc i hi)) 9 Tryz.underlying9⟩
end
/-- A row of eight texts, none of them long. -/
def Eight (w : World) (q : Nat) : Prop := ∃ f0 f1 f2 f3 f4 f5 f6 f7 : ByteArray, Row w q 9 #[.string f0, .string f1, .string f2, .string f3, .string f4, .string f5, .string f6, .string f7] ∧ f0.size ≤ 100000 ∧ f1.size ≤ 100000 ∧ f2.size ≤ 100000 ∧ f3.size ≤ 100000 ∧ f4.size ≤ 100000 ∧ f5.size ≤ 100000 ∧ f6.size ≤ 100000 ∧ f7.size ≤ 100000
theorem Eight.under {w w' : World} {q : Nat} (h : Eight w q) (hb : Below w.heap.size w w') : Eight w' q := by
  obtain ⟨f0, f1, f2, f3, f4, f5, f6, f7, r, h⟩ := h
  exact ⟨f0, f1, f2, f3, f4, f5, f6, f7, r.under hb, h⟩
theorem Eight.grown {w w' : World} {q : Nat} {o : Option Nat} (h : Eight w q) (hb : w.grownBy w' o) (hn : some q ≠ o) : Eight w' q := by
  obtain ⟨f0, f1, f2, f3, f4, f5, f6, f7, r, h⟩ := h
  exact ⟨f0, f1, f2, f3, f4, f5, f6, f7, r.grown hb hn, h⟩
theorem Eight.at {w : World} {q : Nat} (h : Eight w q) {j : Nat} (hj : j < 8) : ∃ f : ByteArray, w.cell? ⟨q, j, none⟩ = some (.string f) ∧ f.size ≤ 100000 := by
  obtain ⟨f0, f1, f2, f3, f4, f5, f6, f7, r, h0, h1, h2, h3, h4, h5, h6, h7⟩ := h
  rcases (by omega : j = 0 ∨ j = 1 ∨ j = 2 ∨ j = 3 ∨ j = 4 ∨ j = 5 ∨ j = 6 ∨ j = 7) with rfl | rfl | rfl | rfl | rfl | rfl | rfl | rfl
  · exact ⟨f0, (r.cell 0).trans rfl, h0⟩
  · exact ⟨f1, (r.cell 1).trans rfl, h1⟩
  · exact ⟨f2, (r.cell 2).trans rfl, h2⟩
  · exact ⟨f3, (r.cell 3).trans rfl, h3⟩
  · exact ⟨f4, (r.cell 4).trans rfl, h4⟩
  · exact ⟨f5, (r.cell 5).trans rfl, h5⟩
  · exact ⟨f6, (r.cell 6).trans rfl, h6⟩
  · exact ⟨f7, (r.cell 7).trans rfl, h7⟩
theorem row3_at {w : World} {g : Nat} {a b c : Int} (r : Row w g 3 #[.int .i64 a, .int .i64 b, .int .i64 c]) {j : Nat} (hj : j < 3) : ∃ z : Int, w.cell? ⟨g, j, none⟩ = some (.int .i64 z) := by
  rcases (by omega : j = 0 ∨ j = 1 ∨ j = 2) with rfl | rfl | rfl
  · exact ⟨a, (r.cell 0).trans rfl⟩
  · exact ⟨b, (r.cell 1).trans rfl⟩
  · exact ⟨c, (r.cell 2).trans rfl⟩
/-- What is known while the texts are read. -/
structure Pq (W : World) (q : Nat) (w : World) : Prop where
  src : Src W W.heap.size w
  txs : Eight w q
  ne : q ≠ W.heap.size
theorem Pq.under {W w w' : World} {q : Nat} (h : Pq W q w) (hb : Below w.heap.size w w') : Pq W q w' := ⟨h.src.under hb, h.txs.under hb, h.ne⟩
theorem Pq.step {W w w' : World} {q : Nat} (h : Pq W q w) (hs : Src W W.heap.size w') (hg : w.grownBy w' (some W.heap.size)) : Pq W q w' :=
  ⟨hs, h.txs.grown hg (fun e => h.ne (by injection e)), h.ne⟩
theorem cRep_self (k : Int) (nm : ByteArray) (t F A B C : Int) (L : List El.Elt.R) : cRep k nm t F A B C L k nm t F A B C L = 0 := by
  have h : cR2 ⟨k, nm, t, F, A, B, C, .slice none 0 0, L⟩ ⟨k, nm, t, F, A, B, C, .slice none 0 0, L⟩ = 0 := by rw [cR2_key]; exact (key_tot.zero _ _).2 rfl
  exact h
theorem same_self (k : Int) (nm : ByteArray) (t F A B C : Int) (u u' : Value) (L : List El.Elt.R) (w : World) (hL : El.RdIn w u L) (hM : El.RdIn w u' L) :
    Calls Tryz.prog 18 #[repV k nm t F A B C u, repV k nm t F A B C u'] w fun e w' => e = .returned (.bool true) ∧ Below w.heap.size w w' := by
  have h := refSame_any k nm t F A B C u L k nm t F A B C u' L w hL hM
  rw [cRep_self] at h
  exact h
set_option maxRecDepth 100000 in
set_option maxHeartbeats 40000000 in
theorem groupParses_any (s wd : ByteArray) (v : Value) (near at_ by_ : Int) (w : World) (hE : Env w) (hl : ListIn w v) (hat : I64 at_) :
    Calls Tryz.prog 4 #[.string s, .string wd, v, .int .i64 near, .int .i64 at_, .int .u8 by_] w fun e w' => e = .returned (.bool true) ∧ Below w.heap.size w w' := by
  by_cases hlen : 200 < s.size
  · have hlen' : (200 : Int) < (s.size : Int) := by omega
    clear hl hat
    go_enter Tryz.func4, Tryz.ntmps4
    go_wp2_with fail
    refine (awake_from (w0 := w) _ hE (Below.refl _ _)).mono ?_
    rintro e w1 ⟨rfl, g1⟩
    go_wp2_with fail
    go_ret
    exact ⟨rfl, g1⟩
  have hlen' : ¬ (200 : Int) < (s.size : Int) := by omega
  by_cases hwd : 30 < wd.size
  · have hwd' : (30 : Int) < (wd.size : Int) := by omega
    clear hl hat
    go_enter Tryz.func4, Tryz.ntmps4
    go_wp2_with fail
    refine (awake_from (w0 := w) _ hE (Below.refl _ _)).mono ?_
    rintro e w1 ⟨rfl, g1⟩
    go_wp2_with fail
    go_ret
    exact ⟨rfl, g1⟩
  have hwd' : ¬ (30 : Int) < (wd.size : Int) := by omega
  have HE := Lib.hid hE
  clear hE
  go_enter Tryz.func4, Tryz.ntmps4
  go_wp2_with fail
  refine (new_any _ _ hl).mono ?_
  rintro e w1 ⟨rfl, s1, -⟩
  clear hl
  go_wp2_with fail
  refine (minute_any _ _ _ s1).mono ?_
  rintro e w2 ⟨m, hm, rfl, s2, -⟩
  have HM1 := Lib.hid hm
  clear hm
  go_wp2_with fail
  refine (report_any _ _ _ m s2 HM1.out.1 HM1.out.2).mono ?_
  rintro e w3 ⟨k0, nm, t0, F0, A0, B0, C0, vr, L, hV, -, rfl, hG⟩
  have HF := Lib.hid (refFormat_rep k0 nm t0 F0 A0 B0 C0 vr L w3 (El.RdIn.own hG.own) (by have := hV.short; omega) hV)
  have htl := gtx_short hV
  have s3 := hG.src
  obtain ⟨Sr, ur, rfl, -⟩ := id (El.RdIn.own hG.own)
  obtain ⟨tl, hgt⟩ : ∃ l, gtx k0 nm t0 F0 A0 B0 L = l := ⟨_, rfl⟩
  rw [hgt] at HF htl
  clear hG hV s1 s2 hgt
  obtain ⟨t, ht⟩ : ∃ t, S tl = t := ⟨_, rfl⟩
  have htz : t.size ≤ 2000 := by rw [← ht, S_size]; exact htl
  rw [ht] at HF
  clear ht htl
  go_wp2_with fail
  refine HF.out.mono ?_
  rintro e w4 ⟨rfl, g4⟩
  have s4 := s3.under g4
  clear s3 g4 HF
  obtain ⟨ts, hts⟩ : ∃ ts, t.size = ts := ⟨_, rfl⟩
  have ts2 : ts ≤ 2000 := by omega
  clear htz
  have HM := Lib.hid (fun W => mod_any at_ ((ts : Int) + 1) W hat (by omega) (by omega))
  have o1 : 0 ≤ at_ % ((ts : Int) + 1) := Int.emod_nonneg _ (by omega)
  have o2 : at_ % ((ts : Int) + 1) < (ts : Int) + 1 := Int.emod_lt_of_pos _ (by omega)
  clear hat
  go_wp2_with fail
  refine (HM.out _).mono ?_
  rintro e w5 ⟨rfl, rfl⟩
  clear HM
  generalize at_ % ((ts : Int) + 1) = k at *
  obtain ⟨j, rfl⟩ := Int.eq_ofNat_of_zero_le o1
  have o3 : j ≤ ts := by omega
  clear o1 o2
  have kc := run_bytes_of_string (P := Tryz.prog) w4 9 45 5 t Tryz.underlying9 Tryz.underlying45 Tryz.underlying5
  have hg := s4.below.size
  have hgb := Nat.ne_of_gt (src_lt s4)
  go_upto_region 8 with fail
  refine forget (fun V => Src w w.heap.size V ∧ Byq ts V w4.heap.size) ⟨s4.under ((Below.refl _ _).drew.alloc (Nat.le_refl _) _), by rw [← hts]; exact Byq.new w4.drew t _⟩ ?_
  clear s4 kc
  generalize grownCap w4 _ 0 5 = cap at *
  generalize w4.heap.size = g at *
  clear w4
  rintro Y ⟨sY, BY⟩
  have j0 : (0 : Int) ≤ (j : Int) := by omega
  by_cases hj : j < ts
  · obtain ⟨z, hz, hfz⟩ := BY.at j hj
    have hj' : (j : Int) < (ts : Int) := by omega
    go_upto_region 10 with fail
    refine forget (fun Z => Src w w.heap.size Z ∧ Byq ts Z g) ⟨Pl.src_set sY g j _ hg hgb, BY.set j _⟩ ?_
    clear sY BY hz hfz hj hj' j0 hg hgb
    clear Y
    rintro Z ⟨sZ, BZ⟩
    obtain ⟨x, hx, kx⟩ := BZ.text cap
    have SZ := Lib.hid sZ
    clear BZ sZ
    obtain ⟨wl, hwl⟩ : ∃ n, wd.size = n := ⟨_, rfl⟩
    have hwl30 : wl ≤ 30 := by omega
    obtain ⟨a0, h0⟩ : ∃ a, t.extract 0 j = a := ⟨_, rfl⟩
    obtain ⟨a1, h1⟩ : ∃ a, t.extract j ts = a := ⟨_, rfl⟩
    have z0 : a0.size = j := by rw [← h0, ByteArray.size_extract]; omega
    have z1 : a1.size = ts - j := by rw [← h1, ByteArray.size_extract]; omega
    have kx' : ∀ wx, Below Z.heap.size Z wx → (convert 45 9 (.slice (some ⟨g, 0, none⟩) ts cap)).run Tryz.prog wx = .ok (.string x) wx := kx
    clear kx
    have i0 : (0 : Int) ≤ (j : Int) := by omega
    have i1 : (j : Int) ≤ (ts : Int) := by omega
    have i4 : (ts : Int) ≤ (ts : Int) := by omega
    have n1 : ¬ 9223372036854775807 < j + wl := by omega
    have n2 : ¬ 9223372036854775807 < j + wl + (ts - j) := by omega
    have n3 : ¬ 9223372036854775807 < j + 1 := by omega
    have n4 : ¬ 9223372036854775807 < j + 1 + (ts - j) := by omega
    have n5 : ¬ 9223372036854775807 < ts + 1 := by omega
    have n6 : ¬ 9223372036854775807 < ts + 1 + wl := by omega
    have n7 : ¬ 9223372036854775807 < ts + 7 := by omega
    refine wp_region_held_drew (S := fun wx : World => Below Z.heap.size Z wx) (by kernel_rfl) (Below.refl Z.heap.size Z).drew (fun hHeld => ?_)
    refine wpAnyH_take (i := 0) (oi := ⟨some 65, _, _, _, _, none⟩) (v := ?_) rfl (by kernel_rfl) (by kernel_rfl) (by kernel_rfl) (fun _ _ _ h => h) (Or.inl ⟨by rfl, ?_⟩) (by assumption) ?_
    case refine_2 => (intro wx hSx; (try dsimp only at hSx); go_simp; first | done | with_reducible rfl)
    try simp only [Act.put, List.setIfInBounds_toArray, List.set_cons_zero, List.set_cons_succ]
    refine wpAnyH_take (i := 1) (oi := ⟨some 66, _, _, _, _, none⟩) (v := ?_) rfl (by kernel_rfl) (by kernel_rfl) (by kernel_rfl) (fun _ _ _ h => h) (Or.inl ⟨by rfl, ?_⟩) (by assumption) ?_
    case refine_2 => (intro wx hSx; (try dsimp only at hSx); go_simp; first | done | with_reducible rfl)
    try simp only [Act.put, List.setIfInBounds_toArray, List.set_cons_zero, List.set_cons_succ]
    refine wpAnyH_take (i := 2) (oi := ⟨some 67, _, _, _, _, none⟩) (v := ?_) rfl (by kernel_rfl) (by kernel_rfl) (by kernel_rfl) (fun _ _ _ h => h) (Or.inl ⟨by rfl, ?_⟩) (by assumption) ?_
    case refine_2 => (intro wx hSx; (try dsimp only at hSx); go_simp; first | done | with_reducible rfl)
    try simp only [Act.put, List.setIfInBounds_toArray, List.set_cons_zero, List.set_cons_succ]
    refine wpAnyH_take (i := 3) (oi := ⟨some 68, _, _, _, _, none⟩) (v := ?_) rfl (by kernel_rfl) (by kernel_rfl) (by kernel_rfl) (fun _ _ _ h => h) (Or.inl ⟨by rfl, ?_⟩) (by assumption) ?_
    case refine_2 =>
      intro wx hSx
      have hk := kx' wx hSx
      (try dsimp only at hSx)
      go_simp
      with_reducible rfl
    try simp only [Act.put, List.setIfInBounds_toArray, List.set_cons_zero, List.set_cons_succ]
    refine wpAnyH_take (i := 4) (oi := ⟨some 69, _, _, _, _, none⟩) (v := ?_) rfl (by kernel_rfl) (by kernel_rfl) (by kernel_rfl) (fun _ _ _ h => h) (Or.inl ⟨by rfl, ?_⟩) (by assumption) ?_
    case refine_2 => (intro wx hSx; (try dsimp only at hSx); go_simp; first | done | with_reducible rfl)
    try simp only [Act.put, List.setIfInBounds_toArray, List.set_cons_zero, List.set_cons_succ]
    refine wpAnyH_take (i := 5) (oi := ⟨some 70, _, _, _, _, none⟩) (v := ?_) rfl (by kernel_rfl) (by kernel_rfl) (by kernel_rfl) (fun _ _ _ h => h) (Or.inl ⟨by rfl, ?_⟩) (by assumption) ?_
    case refine_2 => (intro wx hSx; (try dsimp only at hSx); go_simp; first | done | with_reducible rfl)
    try simp only [Act.put, List.setIfInBounds_toArray, List.set_cons_zero, List.set_cons_succ]
    refine wpAnyH_take (i := 6) (oi := ⟨some 71, _, _, _, _, none⟩) (v := ?_) rfl (by kernel_rfl) (by kernel_rfl) (by kernel_rfl) (fun _ _ _ h => h) (Or.inl ⟨by rfl, ?_⟩) (by assumption) ?_
    case refine_2 => (intro wx hSx; (try dsimp only at hSx); go_simp; first | done | with_reducible rfl)
    try simp only [Act.put, List.setIfInBounds_toArray, List.set_cons_zero, List.set_cons_succ]
    refine wpAnyH_take (i := 7) (oi := ⟨some 72, _, _, _, _, none⟩) (v := ?_) rfl (by kernel_rfl) (by kernel_rfl) (by kernel_rfl) (fun _ _ _ h => h) (Or.inl ⟨by rfl, ?_⟩) (by assumption) ?_
    case refine_2 => (intro wx hSx; (try dsimp only at hSx); go_simp; first | done | with_reducible rfl)
    try simp only [Act.put, List.setIfInBounds_toArray, List.set_cons_zero, List.set_cons_succ]
    refine wpAnyH_take (i := 8) (oi := ⟨some 73, _, _, _, _, none⟩) (v := ?_) rfl (by kernel_rfl) (by kernel_rfl) (by kernel_rfl) (fun _ _ _ h => h) (Or.inl ⟨by rfl, ?_⟩) (by assumption) ?_
    case refine_2 => (intro wx hSx; (try dsimp only at hSx); go_simp; first | done | with_reducible rfl)
    try simp only [Act.put, List.setIfInBounds_toArray, List.set_cons_zero, List.set_cons_succ]
    refine wpAnyH_take (i := 9) (oi := ⟨some 74, _, _, _, _, none⟩) (v := ?_) rfl (by kernel_rfl) (by kernel_rfl) (by kernel_rfl) (fun _ _ _ h => h) (Or.inl ⟨by rfl, ?_⟩) (by assumption) ?_
    case refine_2 => (intro wx hSx; (try dsimp only at hSx); go_simp; first | done | with_reducible rfl)
    try simp only [Act.put, List.setIfInBounds_toArray, List.set_cons_zero, List.set_cons_succ]
    refine wpAnyH_take (i := 10) (oi := ⟨some 75, _, _, _, _, none⟩) (v := ?_) rfl (by kernel_rfl) (by kernel_rfl) (by kernel_rfl) (fun _ _ _ h => h) (Or.inl ⟨by rfl, ?_⟩) (by assumption) ?_
    case refine_2 => (intro wx hSx; (try dsimp only at hSx); go_simp; first | done | with_reducible rfl)
    try simp only [Act.put, List.setIfInBounds_toArray, List.set_cons_zero, List.set_cons_succ]
    refine wpAnyH_take (i := 11) (oi := ⟨some 76, _, _, _, _, none⟩) (v := ?_) rfl (by kernel_rfl) (by kernel_rfl) (by kernel_rfl) (fun _ _ _ h => h) (Or.inl ⟨by rfl, ?_⟩) (by assumption) ?_
    case refine_2 => (intro wx hSx; (try dsimp only at hSx); go_simp; first | done | with_reducible rfl)
    try simp only [Act.put, List.setIfInBounds_toArray, List.set_cons_zero, List.set_cons_succ]
    refine wpAnyH_take (i := 12) (oi := ⟨some 77, _, _, _, _, none⟩) (v := ?_) rfl (by kernel_rfl) (by kernel_rfl) (by kernel_rfl) (fun _ _ _ h => h) (Or.inl ⟨by rfl, ?_⟩) (by assumption) ?_
    case refine_2 => (intro wx hSx; (try dsimp only at hSx); go_simp; first | done | with_reducible rfl)
    try simp only [Act.put, List.setIfInBounds_toArray, List.set_cons_zero, List.set_cons_succ]
    refine wpAnyH_take (i := 13) (oi := ⟨some 78, _, _, _, _, none⟩) (v := ?_) rfl (by kernel_rfl) (by kernel_rfl) (by kernel_rfl) (fun _ _ _ h => h) (Or.inl ⟨by rfl, ?_⟩) (by assumption) ?_
    case refine_2 => (intro wx hSx; (try dsimp only at hSx); go_simp; first | done | with_reducible rfl)
    try simp only [Act.put, List.setIfInBounds_toArray, List.set_cons_zero, List.set_cons_succ]
    refine wpAnyH_take (i := 14) (oi := ⟨some 79, _, _, _, _, none⟩) (v := ?_) rfl (by kernel_rfl) (by kernel_rfl) (by kernel_rfl) (fun _ _ _ h => h) (Or.inl ⟨by rfl, ?_⟩) (by assumption) ?_
    case refine_2 => (intro wx hSx; (try dsimp only at hSx); go_simp; first | done | with_reducible rfl)
    try simp only [Act.put, List.setIfInBounds_toArray, List.set_cons_zero, List.set_cons_succ]
    refine wpAnyH_take (i := 15) (oi := ⟨some 80, _, _, _, _, none⟩) (v := ?_) rfl (by kernel_rfl) (by kernel_rfl) (by kernel_rfl) (fun _ _ _ h => h) (Or.inl ⟨by rfl, ?_⟩) (by assumption) ?_
    case refine_2 => (intro wx hSx; (try dsimp only at hSx); go_simp; first | done | with_reducible rfl)
    try simp only [Act.put, List.setIfInBounds_toArray, List.set_cons_zero, List.set_cons_succ]
    refine wpAnyH_take (i := 16) (oi := ⟨some 81, _, _, _, _, none⟩) (v := ?_) rfl (by kernel_rfl) (by kernel_rfl) (by kernel_rfl) (fun _ _ _ h => h) (Or.inl ⟨by rfl, ?_⟩) (by assumption) ?_
    case refine_2 => (intro wx hSx; (try dsimp only at hSx); go_simp; first | done | with_reducible rfl)
    try simp only [Act.put, List.setIfInBounds_toArray, List.set_cons_zero, List.set_cons_succ]
    refine wpAnyH_take (i := 17) (oi := ⟨some 82, _, _, _, _, none⟩) (v := ?_) rfl (by kernel_rfl) (by kernel_rfl) (by kernel_rfl) (fun _ _ _ h => h) (Or.inl ⟨by rfl, ?_⟩) (by assumption) ?_
    case refine_2 => (intro wx hSx; (try dsimp only at hSx); go_simp; first | done | with_reducible rfl)
    try simp only [Act.put, List.setIfInBounds_toArray, List.set_cons_zero, List.set_cons_succ]
    refine wpAnyH_take (i := 18) (oi := ⟨some 83, _, _, _, _, none⟩) (v := ?_) rfl (by kernel_rfl) (by kernel_rfl) (by kernel_rfl) (fun _ _ _ h => h) (Or.inl ⟨by rfl, ?_⟩) (by assumption) ?_
    case refine_2 => (intro wx hSx; (try dsimp only at hSx); go_simp; first | done | with_reducible rfl)
    try simp only [Act.put, List.setIfInBounds_toArray, List.set_cons_zero, List.set_cons_succ]
    refine wpAnyH_take (i := 19) (oi := ⟨some 84, _, _, _, _, none⟩) (v := ?_) rfl (by kernel_rfl) (by kernel_rfl) (by kernel_rfl) (fun _ _ _ h => h) (Or.inl ⟨by rfl, ?_⟩) (by assumption) ?_
    case refine_2 => (intro wx hSx; (try dsimp only at hSx); go_simp; first | done | with_reducible rfl)
    try simp only [Act.put, List.setIfInBounds_toArray, List.set_cons_zero, List.set_cons_succ]
    refine wpAnyH_take (i := 20) (oi := ⟨some 85, _, _, _, _, none⟩) (v := ?_) rfl (by kernel_rfl) (by kernel_rfl) (by kernel_rfl) (fun _ _ _ h => h) (Or.inl ⟨by rfl, ?_⟩) (by assumption) ?_
    case refine_2 => (intro wx hSx; (try dsimp only at hSx); go_simp; first | done | with_reducible rfl)
    try simp only [Act.put, List.setIfInBounds_toArray, List.set_cons_zero, List.set_cons_succ]
    refine wpAnyH_take (i := 21) (oi := ⟨some 86, _, _, _, _, none⟩) (v := ?_) rfl (by kernel_rfl) (by kernel_rfl) (by kernel_rfl) (fun _ _ _ h => h) (Or.inl ⟨by rfl, ?_⟩) (by assumption) ?_
    case refine_2 => (intro wx hSx; (try dsimp only at hSx); go_simp; first | done | with_reducible rfl)
    try simp only [Act.put, List.setIfInBounds_toArray, List.set_cons_zero, List.set_cons_succ]
    refine wpAnyH_take (i := 22) (oi := ⟨some 87, _, _, _, _, none⟩) (v := ?_) rfl (by kernel_rfl) (by kernel_rfl) (by kernel_rfl) (fun _ _ _ h => h) (Or.inl ⟨by rfl, ?_⟩) (by assumption) ?_
    case refine_2 => (intro wx hSx; (try dsimp only at hSx); go_simp; first | done | with_reducible rfl)
    try simp only [Act.put, List.setIfInBounds_toArray, List.set_cons_zero, List.set_cons_succ]
    refine wpAnyH_take (i := 23) (oi := ⟨some 88, _, _, _, _, none⟩) (v := ?_) rfl (by kernel_rfl) (by kernel_rfl) (by kernel_rfl) (fun _ _ _ h => h) (Or.inl ⟨by rfl, ?_⟩) (by assumption) ?_
    case refine_2 => (intro wx hSx; (try dsimp only at hSx); go_simp; first | done | with_reducible rfl)
    try simp only [Act.put, List.setIfInBounds_toArray, List.set_cons_zero, List.set_cons_succ]
    refine wpAnyH_take (i := 24) (oi := ⟨some 89, _, _, _, _, none⟩) (v := ?_) rfl (by kernel_rfl) (by kernel_rfl) (by kernel_rfl) (fun _ _ _ h => h) (Or.inl ⟨by rfl, ?_⟩) (by assumption) ?_
    case refine_2 => (intro wx hSx; (try dsimp only at hSx); go_simp; first | done | with_reducible rfl)
    try simp only [Act.put, List.setIfInBounds_toArray, List.set_cons_zero, List.set_cons_succ]
    refine wpAnyH_take (i := 25) (oi := ⟨some 90, _, _, _, _, none⟩) (v := ?_) rfl (by kernel_rfl) (by kernel_rfl) (by kernel_rfl) (fun _ _ _ h => h) (Or.inl ⟨by rfl, ?_⟩) (by assumption) ?_
    case refine_2 => (intro wx hSx; (try dsimp only at hSx); go_simp; first | done | with_reducible rfl)
    try simp only [Act.put, List.setIfInBounds_toArray, List.set_cons_zero, List.set_cons_succ]
    refine wpAnyH_take (i := 26) (oi := ⟨some 91, _, _, _, _, none⟩) (v := ?_) rfl (by kernel_rfl) (by kernel_rfl) (by kernel_rfl) (fun _ _ _ h => h) (Or.inl ⟨by rfl, ?_⟩) (by assumption) ?_
    case refine_2 => (intro wx hSx; (try dsimp only at hSx); go_simp; first | done | with_reducible rfl)
    try simp only [Act.put, List.setIfInBounds_toArray, List.set_cons_zero, List.set_cons_succ]
    refine wpAnyH_take (i := 27) (oi := ⟨some 92, _, _, _, _, none⟩) (v := ?_) rfl (by kernel_rfl) (by kernel_rfl) (by kernel_rfl) (fun _ _ _ h => h) (Or.inl ⟨by rfl, ?_⟩) (by assumption) ?_
    case refine_2 => (intro wx hSx; (try dsimp only at hSx); go_simp; first | done | with_reducible rfl)
    try simp only [Act.put, List.setIfInBounds_toArray, List.set_cons_zero, List.set_cons_succ]
    refine wpAnyH_take (i := 28) (oi := ⟨some 93, _, _, _, _, none⟩) (v := ?_) rfl (by kernel_rfl) (by kernel_rfl) (by kernel_rfl) (fun _ _ _ h => h) (Or.inl ⟨by rfl, ?_⟩) (by assumption) ?_
    case refine_2 => (intro wx hSx; (try dsimp only at hSx); go_simp; first | done | with_reducible rfl)
    try simp only [Act.put, List.setIfInBounds_toArray, List.set_cons_zero, List.set_cons_succ]
    refine wpAnyH_take (i := 29) (oi := ⟨some 94, _, _, _, _, none⟩) (v := ?_) rfl (by kernel_rfl) (by kernel_rfl) (by kernel_rfl) (fun _ _ _ h => h) (Or.inl ⟨by rfl, ?_⟩) (by assumption) ?_
    case refine_2 => (intro wx hSx; (try dsimp only at hSx); go_simp; first | done | with_reducible rfl)
    try simp only [Act.put, List.setIfInBounds_toArray, List.set_cons_zero, List.set_cons_succ]
    refine wpAnyH_take (i := 32) (oi := ⟨some 97, _, _, _, _, none⟩) (v := ?_) rfl (by kernel_rfl) (by kernel_rfl) (by kernel_rfl) (fun _ _ _ h => h) (Or.inl ⟨by rfl, ?_⟩) (by assumption) ?_
    case refine_2 => (intro wx hSx; (try dsimp only at hSx); go_simp; first | done | with_reducible rfl)
    try simp only [Act.put, List.setIfInBounds_toArray, List.set_cons_zero, List.set_cons_succ]
    refine wpAnyH_ready (rs := [30]) (by kernel_rfl) (by simp) ?_
    refine AllReadyH.cons rfl (fun K hK => ?_) AllReadyH.nil
    go_simp
    refine hK.out _ _ ((Below.refl Z.heap.size Z).drew.alloc (Nat.le_refl _) _) (fun hHeld2 => ?_)
    clear hK K hHeld
    try simp only [Act.put, List.setIfInBounds_toArray, List.set_cons_zero, List.set_cons_succ]
    refine wpAnyH_take (i := 31) (oi := ⟨some 96, _, _, _, _, none⟩) (v := ?_) rfl (by kernel_rfl) (by kernel_rfl) (by kernel_rfl) (fun _ _ _ h => h) (Or.inl ⟨by rfl, ?_⟩) (by assumption) ?_
    case refine_2 => (intro wx hSx; (try dsimp only at hSx); go_simp; first | done | with_reducible rfl)
    try simp only [Act.put, List.setIfInBounds_toArray, List.set_cons_zero, List.set_cons_succ]
    refine wpAnyH_done (by kernel_rfl) ?_ _
    go_wp2_with fail
    have rS := Row.new Z #[.string s, .string t, .string x, .string a0, .string (a0 ++ wd ++ a1), .string (a0 ++ ⟨#[32]⟩ ++ a1), .string (t ++ ⟨#[32]⟩ ++ wd), .string (t ++ ⟨#[32, 80, 49, 48, 49, 51, 50]⟩)] 9
    have hd1 : (⟨#[32]⟩ : ByteArray).size = 1 := rfl
    have hd3 : (⟨#[32, 80, 49, 48, 49, 51, 50]⟩ : ByteArray).size = 7 := rfl
    have S8 : Eight (Z.alloc (.cells #[.string s, .string t, .string x, .string a0, .string (a0 ++ wd ++ a1), .string (a0 ++ ⟨#[32]⟩ ++ a1), .string (t ++ ⟨#[32]⟩ ++ wd), .string (t ++ ⟨#[32, 80, 49, 48, 49, 51, 50]⟩)] 9)) Z.heap.size :=
      ⟨_, _, _, _, _, _, _, _, rS, by omega, by omega, by omega, by omega, by simp only [ByteArray.size_append]; omega, by simp only [ByteArray.size_append]; omega, by simp only [ByteArray.size_append]; omega, by simp only [ByteArray.size_append]; omega⟩
    have Q8 : Pq w Z.heap.size (Z.alloc (.cells #[.string s, .string t, .string x, .string a0, .string (a0 ++ wd ++ a1), .string (a0 ++ ⟨#[32]⟩ ++ a1), .string (t ++ ⟨#[32]⟩ ++ wd), .string (t ++ ⟨#[32, 80, 49, 48, 49, 51, 50]⟩)] 9)) := ⟨SZ.out.under ((Below.refl _ _).alloc (Nat.le_refl _) _), S8, Nat.ne_of_gt (src_lt SZ.out)⟩
    have HQ := Lib.hid Q8
    clear rS S8 Q8 hd1 hd3 kx' hHeld2 n1 n2 n3 n4 n5 n6 n7 i0 i1 i4 z0 z1 h0 h1 hx SZ hts hwl hwl30 hlen hlen' hwd hwd'
    go_loopw [97] (fun t wr => ∃ i : Nat, i ≤ 8 ∧ t = .int .i64 i ∧ Pq w Z.heap.size wr) (fun t _ => 8 - (intOf t).toNat)
    case atStart => exact ⟨0, by omega, rfl, HQ.out.under (Below.refl _ _).drew⟩
    case round =>
      clear HQ
      obtain ⟨i, hi, rfl, hP⟩ := hrel
      generalize Z.heap.size = q at *
      by_cases hlt : i < 8
      · have i0 : (0 : Int) ≤ (i : Int) := by omega
        have i1 : (i : Int) < 8 := by omega
        obtain ⟨f, hf, hfs⟩ := hP.txs.at hlt
        obtain ⟨fl, rfl⟩ : ∃ l, f = S l := ⟨f.data.toList, (S_of f).symm⟩
        rw [S_size] at hfs
        have HFS := Lib.hid hfs
        have HP := Lib.hid hP
        clear hfs hP
        go_wp2_with fail
        refine (near_any _ _ _ m HP.out.src HM1.out.1 HM1.out.2).mono ?_
        rintro e w7 ⟨x1, -, rfl, s7, g7⟩
        have P7 := HP.out.step s7 g7
        clear hf HP s7 g7 i0 i1
        go_wp2_with fail
        refine forget (fun Y => Pq w q Y ∧ Row Y w7.heap.size 3 #[.int .i64 m, .int .i64 near, .int .i64 x1]) ⟨P7.under ((Below.refl _ _).alloc (Nat.le_refl _) _), Row.new _ _ _⟩ ?_
        clear P7
        generalize w7.heap.size = g3 at *
        clear w7
        rintro V ⟨pV, tV⟩
        have HPV := Lib.hid pV
        have HT := Lib.hid tV
        have HEV := Lib.hid (HE.out.under pV.src.below)
        clear pV tV
        go_loopw [108] (fun t wr => ∃ j : Nat, j ≤ 3 ∧ t = .int .i64 j ∧ Below V.heap.size V wr) (fun t _ => 3 - (intOf t).toNat)
        case atStart => exact ⟨0, by omega, rfl, Below.refl _ _⟩
        case round =>
          obtain ⟨j2, hj2, rfl, hB⟩ := hrel
          by_cases hlt2 : j2 < 3
          · have i0b : (0 : Int) ≤ (j2 : Int) := by omega
            have i1b : (j2 : Int) < 3 := by omega
            obtain ⟨z, hz⟩ := row3_at (HT.out.under hB) hlt2
            have HB := Lib.hid hB
            clear hB
            go_wp2_with fail
            refine (parse_ans fl z V _ HEV.out HB.out HFS.out).mono ?_
            rintro e w8 ⟨k, nm, t1, F, A, B, C, L, u, er, hT, rfl, hR, g8⟩
            obtain ⟨Au, cu, rfl, -⟩ := id hR
            have b8 := HB.out.trans (g8.mono HB.out.size)
            have HT1 := Lib.hid hT
            clear hz HB hT g8
            go_upto_region 17 with fail
            refine forget (fun Y => Below V.heap.size V Y ∧ El.RdIn Y (.slice Au L.length cu) L ∧ Row Y w8.heap.size 26 (repC k (S nm) t1 F A B C (.slice Au L.length cu))) ⟨b8.alloc b8.size _, hR.under ((Below.refl _ _).alloc (Nat.le_refl _) _), Row.new _ _ _⟩ ?_
            clear b8 hR
            generalize w8.heap.size = ga at *
            clear w8
            rintro Y ⟨bY, dY, rY⟩
            have HB := Lib.hid bY
            have HD := Lib.hid dY
            have HR := Lib.hid rY
            clear bY dY rY
            go_wp2_with fail
            refine (refParse_ans fl z _ HFS.out).mono ?_
            rintro e w8 ⟨k', nm', t1', F', A', B', C', L', u', er', hT, rfl, hR, g8⟩
            obtain ⟨rfl, rfl, rfl, rfl, rfl, rfl, rfl, rfl, rfl⟩ := HT1.out.one hT
            obtain ⟨Au', cu', rfl, -⟩ := id hR
            have b8 := HB.out.trans (g8.mono HB.out.size)
            have d8 := HD.out.under g8
            have r8 := HR.out.under g8
            clear HB HD HR hT g8 HT1
            go_upto_region 18 with fail
            refine forget (fun Y => Below V.heap.size V Y ∧ El.RdIn Y (.slice Au L.length cu) L ∧ El.RdIn Y (.slice Au' L.length cu') L ∧ Row Y ga 26 (repC k (S nm) t1 F A B C (.slice Au L.length cu)) ∧ Row Y w8.heap.size 26 (repC k (S nm) t1 F A B C (.slice Au' L.length cu'))) ⟨b8.alloc b8.size _, d8.under ((Below.refl _ _).alloc (Nat.le_refl _) _), hR.under ((Below.refl _ _).alloc (Nat.le_refl _) _), r8.alloc _, Row.new _ _ _⟩ ?_
            clear b8 d8 r8 hR
            generalize w8.heap.size = gb at *
            clear w8
            rintro Y ⟨bY, dY, dY', rY, rY'⟩
            have FS := Lib.hid (fun W (h1 : El.RdIn W (.slice Au L.length cu) L) (h2 : El.RdIn W (.slice Au' L.length cu') L) => same_self k (S nm) t1 F A B C (.slice Au L.length cu) (.slice Au' L.length cu') L W h1 h2)
            have HB := Lib.hid bY
            have HD := Lib.hid dY
            have HD2 := Lib.hid dY'
            obtain ⟨p0, p1, p2, p3, p4, p5, p6, p7⟩ := row8 rY
            obtain ⟨d0, d1, d2, d3, d4, d5, d6, d7⟩ := row8 rY'
            clear bY dY dY' rY rY'
            have q1 : (er != er) = false := by simp
            go_wp2_with fail
            refine (FS.out _ HD.out HD2.out).mono ?_
            rintro e w9 ⟨rfl, g9⟩
            have BQ := Lib.hid (HB.out.trans (g9.mono HB.out.size))
            clear p0 p1 p2 p3 p4 p5 p6 p7 d0 d1 d2 d3 d4 d5 d6 d7 g9 HB HD HD2 FS q1
            go_wp2_with fail
            go_roundw
            case rel => exact ⟨j2 + 1, by omega, by go_num, BQ.out⟩
            case measure => simp [intOf]; omega
          · have k2 : ¬ (j2 : Int) < 3 := by omega
            have P9 := Lib.hid (HPV.out.under hB)
            clear hB
            go_wp2_with fail
            go_roundw
            case rel => exact ⟨i + 1, by omega, by go_num, P9.out⟩
            case measure => simp [intOf]; omega
      · have k1 : ¬ (i : Int) < 8 := by omega
        have HP := Lib.hid hP
        clear hP
        go_wp2_with fail
        refine (awake_from (w0 := w) _ (HE.out.under HP.out.src.below) HP.out.src.below).mono ?_
        rintro e v9 ⟨rfl, g9⟩
        have B9 := Lib.hid g9; clear g9
        go_wp2_with fail
        go_ret
        exact ⟨rfl, B9.out⟩
  · have hj' : ¬ (j : Int) < (ts : Int) := by omega
    go_upto_region 10 with fail
    refine forget (fun Z => Src w w.heap.size Z ∧ Byq ts Z g) ⟨sY, BY⟩ ?_
    clear sY BY hj hj' j0 hg hgb
    clear Y
    rintro Z ⟨sZ, BZ⟩
    obtain ⟨x, hx, kx⟩ := BZ.text cap
    have SZ := Lib.hid sZ
    clear BZ sZ
    obtain ⟨wl, hwl⟩ : ∃ n, wd.size = n := ⟨_, rfl⟩
    have hwl30 : wl ≤ 30 := by omega
    obtain ⟨a0, h0⟩ : ∃ a, t.extract 0 j = a := ⟨_, rfl⟩
    obtain ⟨a1, h1⟩ : ∃ a, t.extract j ts = a := ⟨_, rfl⟩
    have z0 : a0.size = j := by rw [← h0, ByteArray.size_extract]; omega
    have z1 : a1.size = ts - j := by rw [← h1, ByteArray.size_extract]; omega
    have kx' : ∀ wx, Below Z.heap.size Z wx → (convert 45 9 (.slice (some ⟨g, 0, none⟩) ts cap)).run Tryz.prog wx = .ok (.string x) wx := kx
    clear kx
    have i0 : (0 : Int) ≤ (j : Int) := by omega
    have i1 : (j : Int) ≤ (ts : Int) := by omega
    have i4 : (ts : Int) ≤ (ts : Int) := by omega
    have n1 : ¬ 9223372036854775807 < j + wl := by omega
    have n2 : ¬ 9223372036854775807 < j + wl + (ts - j) := by omega
    have n3 : ¬ 9223372036854775807 < j + 1 := by omega
    have n4 : ¬ 9223372036854775807 < j + 1 + (ts - j) := by omega
    have n5 : ¬ 9223372036854775807 < ts + 1 := by omega
    have n6 : ¬ 9223372036854775807 < ts + 1 + wl := by omega
    have n7 : ¬ 9223372036854775807 < ts + 7 := by omega
    refine wp_region_held_drew (S := fun wx : World => Below Z.heap.size Z wx) (by kernel_rfl) (Below.refl Z.heap.size Z).drew (fun hHeld => ?_)
    refine wpAnyH_take (i := 0) (oi := ⟨some 65, _, _, _, _, none⟩) (v := ?_) rfl (by kernel_rfl) (by kernel_rfl) (by kernel_rfl) (fun _ _ _ h => h) (Or.inl ⟨by rfl, ?_⟩) (by assumption) ?_
    case refine_2 => (intro wx hSx; (try dsimp only at hSx); go_simp; first | done | with_reducible rfl)
    try simp only [Act.put, List.setIfInBounds_toArray, List.set_cons_zero, List.set_cons_succ]
    refine wpAnyH_take (i := 1) (oi := ⟨some 66, _, _, _, _, none⟩) (v := ?_) rfl (by kernel_rfl) (by kernel_rfl) (by kernel_rfl) (fun _ _ _ h => h) (Or.inl ⟨by rfl, ?_⟩) (by assumption) ?_
    case refine_2 => (intro wx hSx; (try dsimp only at hSx); go_simp; first | done | with_reducible rfl)
    try simp only [Act.put, List.setIfInBounds_toArray, List.set_cons_zero, List.set_cons_succ]
    refine wpAnyH_take (i := 2) (oi := ⟨some 67, _, _, _, _, none⟩) (v := ?_) rfl (by kernel_rfl) (by kernel_rfl) (by kernel_rfl) (fun _ _ _ h => h) (Or.inl ⟨by rfl, ?_⟩) (by assumption) ?_
    case refine_2 => (intro wx hSx; (try dsimp only at hSx); go_simp; first | done | with_reducible rfl)
    try simp only [Act.put, List.setIfInBounds_toArray, List.set_cons_zero, List.set_cons_succ]
    refine wpAnyH_take (i := 3) (oi := ⟨some 68, _, _, _, _, none⟩) (v := ?_) rfl (by kernel_rfl) (by kernel_rfl) (by kernel_rfl) (fun _ _ _ h => h) (Or.inl ⟨by rfl, ?_⟩) (by assumption) ?_
    case refine_2 =>
      intro wx hSx
      have hk := kx' wx hSx
      (try dsimp only at hSx)
      go_simp
      with_reducible rfl
    try simp only [Act.put, List.setIfInBounds_toArray, List.set_cons_zero, List.set_cons_succ]
    refine wpAnyH_take (i := 4) (oi := ⟨some 69, _, _, _, _, none⟩) (v := ?_) rfl (by kernel_rfl) (by kernel_rfl) (by kernel_rfl) (fun _ _ _ h => h) (Or.inl ⟨by rfl, ?_⟩) (by assumption) ?_
    case refine_2 => (intro wx hSx; (try dsimp only at hSx); go_simp; first | done | with_reducible rfl)
    try simp only [Act.put, List.setIfInBounds_toArray, List.set_cons_zero, List.set_cons_succ]
    refine wpAnyH_take (i := 5) (oi := ⟨some 70, _, _, _, _, none⟩) (v := ?_) rfl (by kernel_rfl) (by kernel_rfl) (by kernel_rfl) (fun _ _ _ h => h) (Or.inl ⟨by rfl, ?_⟩) (by assumption) ?_
    case refine_2 => (intro wx hSx; (try dsimp only at hSx); go_simp; first | done | with_reducible rfl)
    try simp only [Act.put, List.setIfInBounds_toArray, List.set_cons_zero, List.set_cons_succ]
    refine wpAnyH_take (i := 6) (oi := ⟨some 71, _, _, _, _, none⟩) (v := ?_) rfl (by kernel_rfl) (by kernel_rfl) (by kernel_rfl) (fun _ _ _ h => h) (Or.inl ⟨by rfl, ?_⟩) (by assumption) ?_
    case refine_2 => (intro wx hSx; (try dsimp only at hSx); go_simp; first | done | with_reducible rfl)
    try simp only [Act.put, List.setIfInBounds_toArray, List.set_cons_zero, List.set_cons_succ]
    refine wpAnyH_take (i := 7) (oi := ⟨some 72, _, _, _, _, none⟩) (v := ?_) rfl (by kernel_rfl) (by kernel_rfl) (by kernel_rfl) (fun _ _ _ h => h) (Or.inl ⟨by rfl, ?_⟩) (by assumption) ?_
    case refine_2 => (intro wx hSx; (try dsimp only at hSx); go_simp; first | done | with_reducible rfl)
    try simp only [Act.put, List.setIfInBounds_toArray, List.set_cons_zero, List.set_cons_succ]
    refine wpAnyH_take (i := 8) (oi := ⟨some 73, _, _, _, _, none⟩) (v := ?_) rfl (by kernel_rfl) (by kernel_rfl) (by kernel_rfl) (fun _ _ _ h => h) (Or.inl ⟨by rfl, ?_⟩) (by assumption) ?_
    case refine_2 => (intro wx hSx; (try dsimp only at hSx); go_simp; first | done | with_reducible rfl)
    try simp only [Act.put, List.setIfInBounds_toArray, List.set_cons_zero, List.set_cons_succ]
    refine wpAnyH_take (i := 9) (oi := ⟨some 74, _, _, _, _, none⟩) (v := ?_) rfl (by kernel_rfl) (by kernel_rfl) (by kernel_rfl) (fun _ _ _ h => h) (Or.inl ⟨by rfl, ?_⟩) (by assumption) ?_
    case refine_2 => (intro wx hSx; (try dsimp only at hSx); go_simp; first | done | with_reducible rfl)
    try simp only [Act.put, List.setIfInBounds_toArray, List.set_cons_zero, List.set_cons_succ]
    refine wpAnyH_take (i := 10) (oi := ⟨some 75, _, _, _, _, none⟩) (v := ?_) rfl (by kernel_rfl) (by kernel_rfl) (by kernel_rfl) (fun _ _ _ h => h) (Or.inl ⟨by rfl, ?_⟩) (by assumption) ?_
    case refine_2 => (intro wx hSx; (try dsimp only at hSx); go_simp; first | done | with_reducible rfl)
    try simp only [Act.put, List.setIfInBounds_toArray, List.set_cons_zero, List.set_cons_succ]
    refine wpAnyH_take (i := 11) (oi := ⟨some 76, _, _, _, _, none⟩) (v := ?_) rfl (by kernel_rfl) (by kernel_rfl) (by kernel_rfl) (fun _ _ _ h => h) (Or.inl ⟨by rfl, ?_⟩) (by assumption) ?_
    case refine_2 => (intro wx hSx; (try dsimp only at hSx); go_simp; first | done | with_reducible rfl)
    try simp only [Act.put, List.setIfInBounds_toArray, List.set_cons_zero, List.set_cons_succ]
    refine wpAnyH_take (i := 12) (oi := ⟨some 77, _, _, _, _, none⟩) (v := ?_) rfl (by kernel_rfl) (by kernel_rfl) (by kernel_rfl) (fun _ _ _ h => h) (Or.inl ⟨by rfl, ?_⟩) (by assumption) ?_
    case refine_2 => (intro wx hSx; (try dsimp only at hSx); go_simp; first | done | with_reducible rfl)
    try simp only [Act.put, List.setIfInBounds_toArray, List.set_cons_zero, List.set_cons_succ]
    refine wpAnyH_take (i := 13) (oi := ⟨some 78, _, _, _, _, none⟩) (v := ?_) rfl (by kernel_rfl) (by kernel_rfl) (by kernel_rfl) (fun _ _ _ h => h) (Or.inl ⟨by rfl, ?_⟩) (by assumption) ?_
    case refine_2 => (intro wx hSx; (try dsimp only at hSx); go_simp; first | done | with_reducible rfl)
    try simp only [Act.put, List.setIfInBounds_toArray, List.set_cons_zero, List.set_cons_succ]
    refine wpAnyH_take (i := 14) (oi := ⟨some 79, _, _, _, _, none⟩) (v := ?_) rfl (by kernel_rfl) (by kernel_rfl) (by kernel_rfl) (fun _ _ _ h => h) (Or.inl ⟨by rfl, ?_⟩) (by assumption) ?_
    case refine_2 => (intro wx hSx; (try dsimp only at hSx); go_simp; first | done | with_reducible rfl)
    try simp only [Act.put, List.setIfInBounds_toArray, List.set_cons_zero, List.set_cons_succ]
    refine wpAnyH_take (i := 15) (oi := ⟨some 80, _, _, _, _, none⟩) (v := ?_) rfl (by kernel_rfl) (by kernel_rfl) (by kernel_rfl) (fun _ _ _ h => h) (Or.inl ⟨by rfl, ?_⟩) (by assumption) ?_
    case refine_2 => (intro wx hSx; (try dsimp only at hSx); go_simp; first | done | with_reducible rfl)
    try simp only [Act.put, List.setIfInBounds_toArray, List.set_cons_zero, List.set_cons_succ]
    refine wpAnyH_take (i := 16) (oi := ⟨some 81, _, _, _, _, none⟩) (v := ?_) rfl (by kernel_rfl) (by kernel_rfl) (by kernel_rfl) (fun _ _ _ h => h) (Or.inl ⟨by rfl, ?_⟩) (by assumption) ?_
    case refine_2 => (intro wx hSx; (try dsimp only at hSx); go_simp; first | done | with_reducible rfl)
    try simp only [Act.put, List.setIfInBounds_toArray, List.set_cons_zero, List.set_cons_succ]
    refine wpAnyH_take (i := 17) (oi := ⟨some 82, _, _, _, _, none⟩) (v := ?_) rfl (by kernel_rfl) (by kernel_rfl) (by kernel_rfl) (fun _ _ _ h => h) (Or.inl ⟨by rfl, ?_⟩) (by assumption) ?_
    case refine_2 => (intro wx hSx; (try dsimp only at hSx); go_simp; first | done | with_reducible rfl)
    try simp only [Act.put, List.setIfInBounds_toArray, List.set_cons_zero, List.set_cons_succ]
    refine wpAnyH_take (i := 18) (oi := ⟨some 83, _, _, _, _, none⟩) (v := ?_) rfl (by kernel_rfl) (by kernel_rfl) (by kernel_rfl) (fun _ _ _ h => h) (Or.inl ⟨by rfl, ?_⟩) (by assumption) ?_
    case refine_2 => (intro wx hSx; (try dsimp only at hSx); go_simp; first | done | with_reducible rfl)
    try simp only [Act.put, List.setIfInBounds_toArray, List.set_cons_zero, List.set_cons_succ]
    refine wpAnyH_take (i := 19) (oi := ⟨some 84, _, _, _, _, none⟩) (v := ?_) rfl (by kernel_rfl) (by kernel_rfl) (by kernel_rfl) (fun _ _ _ h => h) (Or.inl ⟨by rfl, ?_⟩) (by assumption) ?_
    case refine_2 => (intro wx hSx; (try dsimp only at hSx); go_simp; first | done | with_reducible rfl)
    try simp only [Act.put, List.setIfInBounds_toArray, List.set_cons_zero, List.set_cons_succ]
    refine wpAnyH_take (i := 20) (oi := ⟨some 85, _, _, _, _, none⟩) (v := ?_) rfl (by kernel_rfl) (by kernel_rfl) (by kernel_rfl) (fun _ _ _ h => h) (Or.inl ⟨by rfl, ?_⟩) (by assumption) ?_
    case refine_2 => (intro wx hSx; (try dsimp only at hSx); go_simp; first | done | with_reducible rfl)
    try simp only [Act.put, List.setIfInBounds_toArray, List.set_cons_zero, List.set_cons_succ]
    refine wpAnyH_take (i := 21) (oi := ⟨some 86, _, _, _, _, none⟩) (v := ?_) rfl (by kernel_rfl) (by kernel_rfl) (by kernel_rfl) (fun _ _ _ h => h) (Or.inl ⟨by rfl, ?_⟩) (by assumption) ?_
    case refine_2 => (intro wx hSx; (try dsimp only at hSx); go_simp; first | done | with_reducible rfl)
    try simp only [Act.put, List.setIfInBounds_toArray, List.set_cons_zero, List.set_cons_succ]
    refine wpAnyH_take (i := 22) (oi := ⟨some 87, _, _, _, _, none⟩) (v := ?_) rfl (by kernel_rfl) (by kernel_rfl) (by kernel_rfl) (fun _ _ _ h => h) (Or.inl ⟨by rfl, ?_⟩) (by assumption) ?_
    case refine_2 => (intro wx hSx; (try dsimp only at hSx); go_simp; first | done | with_reducible rfl)
    try simp only [Act.put, List.setIfInBounds_toArray, List.set_cons_zero, List.set_cons_succ]
    refine wpAnyH_take (i := 23) (oi := ⟨some 88, _, _, _, _, none⟩) (v := ?_) rfl (by kernel_rfl) (by kernel_rfl) (by kernel_rfl) (fun _ _ _ h => h) (Or.inl ⟨by rfl, ?_⟩) (by assumption) ?_
    case refine_2 => (intro wx hSx; (try dsimp only at hSx); go_simp; first | done | with_reducible rfl)
    try simp only [Act.put, List.setIfInBounds_toArray, List.set_cons_zero, List.set_cons_succ]
    refine wpAnyH_take (i := 24) (oi := ⟨some 89, _, _, _, _, none⟩) (v := ?_) rfl (by kernel_rfl) (by kernel_rfl) (by kernel_rfl) (fun _ _ _ h => h) (Or.inl ⟨by rfl, ?_⟩) (by assumption) ?_
    case refine_2 => (intro wx hSx; (try dsimp only at hSx); go_simp; first | done | with_reducible rfl)
    try simp only [Act.put, List.setIfInBounds_toArray, List.set_cons_zero, List.set_cons_succ]
    refine wpAnyH_take (i := 25) (oi := ⟨some 90, _, _, _, _, none⟩) (v := ?_) rfl (by kernel_rfl) (by kernel_rfl) (by kernel_rfl) (fun _ _ _ h => h) (Or.inl ⟨by rfl, ?_⟩) (by assumption) ?_
    case refine_2 => (intro wx hSx; (try dsimp only at hSx); go_simp; first | done | with_reducible rfl)
    try simp only [Act.put, List.setIfInBounds_toArray, List.set_cons_zero, List.set_cons_succ]
    refine wpAnyH_take (i := 26) (oi := ⟨some 91, _, _, _, _, none⟩) (v := ?_) rfl (by kernel_rfl) (by kernel_rfl) (by kernel_rfl) (fun _ _ _ h => h) (Or.inl ⟨by rfl, ?_⟩) (by assumption) ?_
    case refine_2 => (intro wx hSx; (try dsimp only at hSx); go_simp; first | done | with_reducible rfl)
    try simp only [Act.put, List.setIfInBounds_toArray, List.set_cons_zero, List.set_cons_succ]
    refine wpAnyH_take (i := 27) (oi := ⟨some 92, _, _, _, _, none⟩) (v := ?_) rfl (by kernel_rfl) (by kernel_rfl) (by kernel_rfl) (fun _ _ _ h => h) (Or.inl ⟨by rfl, ?_⟩) (by assumption) ?_
    case refine_2 => (intro wx hSx; (try dsimp only at hSx); go_simp; first | done | with_reducible rfl)
    try simp only [Act.put, List.setIfInBounds_toArray, List.set_cons_zero, List.set_cons_succ]
    refine wpAnyH_take (i := 28) (oi := ⟨some 93, _, _, _, _, none⟩) (v := ?_) rfl (by kernel_rfl) (by kernel_rfl) (by kernel_rfl) (fun _ _ _ h => h) (Or.inl ⟨by rfl, ?_⟩) (by assumption) ?_
    case refine_2 => (intro wx hSx; (try dsimp only at hSx); go_simp; first | done | with_reducible rfl)
    try simp only [Act.put, List.setIfInBounds_toArray, List.set_cons_zero, List.set_cons_succ]
    refine wpAnyH_take (i := 29) (oi := ⟨some 94, _, _, _, _, none⟩) (v := ?_) rfl (by kernel_rfl) (by kernel_rfl) (by kernel_rfl) (fun _ _ _ h => h) (Or.inl ⟨by rfl, ?_⟩) (by assumption) ?_
    case refine_2 => (intro wx hSx; (try dsimp only at hSx); go_simp; first | done | with_reducible rfl)
    try simp only [Act.put, List.setIfInBounds_toArray, List.set_cons_zero, List.set_cons_succ]
    refine wpAnyH_take (i := 32) (oi := ⟨some 97, _, _, _, _, none⟩) (v := ?_) rfl (by kernel_rfl) (by kernel_rfl) (by kernel_rfl) (fun _ _ _ h => h) (Or.inl ⟨by rfl, ?_⟩) (by assumption) ?_
    case refine_2 => (intro wx hSx; (try dsimp only at hSx); go_simp; first | done | with_reducible rfl)
    try simp only [Act.put, List.setIfInBounds_toArray, List.set_cons_zero, List.set_cons_succ]
    refine wpAnyH_ready (rs := [30]) (by kernel_rfl) (by simp) ?_
    refine AllReadyH.cons rfl (fun K hK => ?_) AllReadyH.nil
    go_simp
    refine hK.out _ _ ((Below.refl Z.heap.size Z).drew.alloc (Nat.le_refl _) _) (fun hHeld2 => ?_)
    clear hK K hHeld
    try simp only [Act.put, List.setIfInBounds_toArray, List.set_cons_zero, List.set_cons_succ]
    refine wpAnyH_take (i := 31) (oi := ⟨some 96, _, _, _, _, none⟩) (v := ?_) rfl (by kernel_rfl) (by kernel_rfl) (by kernel_rfl) (fun _ _ _ h => h) (Or.inl ⟨by rfl, ?_⟩) (by assumption) ?_
    case refine_2 => (intro wx hSx; (try dsimp only at hSx); go_simp; first | done | with_reducible rfl)
    try simp only [Act.put, List.setIfInBounds_toArray, List.set_cons_zero, List.set_cons_succ]
    refine wpAnyH_done (by kernel_rfl) ?_ _
    go_wp2_with fail
    have rS := Row.new Z #[.string s, .string t, .string x, .string a0, .string (a0 ++ wd ++ a1), .string (a0 ++ ⟨#[32]⟩ ++ a1), .string (t ++ ⟨#[32]⟩ ++ wd), .string (t ++ ⟨#[32, 80, 49, 48, 49, 51, 50]⟩)] 9
    have hd1 : (⟨#[32]⟩ : ByteArray).size = 1 := rfl
    have hd3 : (⟨#[32, 80, 49, 48, 49, 51, 50]⟩ : ByteArray).size = 7 := rfl
    have S8 : Eight (Z.alloc (.cells #[.string s, .string t, .string x, .string a0, .string (a0 ++ wd ++ a1), .string (a0 ++ ⟨#[32]⟩ ++ a1), .string (t ++ ⟨#[32]⟩ ++ wd), .string (t ++ ⟨#[32, 80, 49, 48, 49, 51, 50]⟩)] 9)) Z.heap.size :=
      ⟨_, _, _, _, _, _, _, _, rS, by omega, by omega, by omega, by omega, by simp only [ByteArray.size_append]; omega, by simp only [ByteArray.size_append]; omega, by simp only [ByteArray.size_append]; omega, by simp only [ByteArray.size_append]; omega⟩
    have Q8 : Pq w Z.heap.size (Z.alloc (.cells #[.string s, .string t, .string x, .string a0, .string (a0 ++ wd ++ a1), .string (a0 ++ ⟨#[32]⟩ ++ a1), .string (t ++ ⟨#[32]⟩ ++ wd), .string (t ++ ⟨#[32, 80, 49, 48, 49, 51, 50]⟩)] 9)) := ⟨SZ.out.under ((Below.refl _ _).alloc (Nat.le_refl _) _), S8, Nat.ne_of_gt (src_lt SZ.out)⟩
    have HQ := Lib.hid Q8
    clear rS S8 Q8 hd1 hd3 kx' hHeld2 n1 n2 n3 n4 n5 n6 n7 i0 i1 i4 z0 z1 h0 h1 hx SZ hts hwl hwl30 hlen hlen' hwd hwd'
    go_loopw [97] (fun t wr => ∃ i : Nat, i ≤ 8 ∧ t = .int .i64 i ∧ Pq w Z.heap.size wr) (fun t _ => 8 - (intOf t).toNat)
    case atStart => exact ⟨0, by omega, rfl, HQ.out.under (Below.refl _ _).drew⟩
    case round =>
      clear HQ
      obtain ⟨i, hi, rfl, hP⟩ := hrel
      generalize Z.heap.size = q at *
      by_cases hlt : i < 8
      · have i0 : (0 : Int) ≤ (i : Int) := by omega
        have i1 : (i : Int) < 8 := by omega
        obtain ⟨f, hf, hfs⟩ := hP.txs.at hlt
        obtain ⟨fl, rfl⟩ : ∃ l, f = S l := ⟨f.data.toList, (S_of f).symm⟩
        rw [S_size] at hfs
        have HFS := Lib.hid hfs
        have HP := Lib.hid hP
        clear hfs hP
        go_wp2_with fail
        refine (near_any _ _ _ m HP.out.src HM1.out.1 HM1.out.2).mono ?_
        rintro e w7 ⟨x1, -, rfl, s7, g7⟩
        have P7 := HP.out.step s7 g7
        clear hf HP s7 g7 i0 i1
        go_wp2_with fail
        refine forget (fun Y => Pq w q Y ∧ Row Y w7.heap.size 3 #[.int .i64 m, .int .i64 near, .int .i64 x1]) ⟨P7.under ((Below.refl _ _).alloc (Nat.le_refl _) _), Row.new _ _ _⟩ ?_
        clear P7
        generalize w7.heap.size = g3 at *
        clear w7
        rintro V ⟨pV, tV⟩
        have HPV := Lib.hid pV
        have HT := Lib.hid tV
        have HEV := Lib.hid (HE.out.under pV.src.below)
        clear pV tV
        go_loopw [108] (fun t wr => ∃ j : Nat, j ≤ 3 ∧ t = .int .i64 j ∧ Below V.heap.size V wr) (fun t _ => 3 - (intOf t).toNat)
        case atStart => exact ⟨0, by omega, rfl, Below.refl _ _⟩
        case round =>
          obtain ⟨j2, hj2, rfl, hB⟩ := hrel
          by_cases hlt2 : j2 < 3
          · have i0b : (0 : Int) ≤ (j2 : Int) := by omega
            have i1b : (j2 : Int) < 3 := by omega
            obtain ⟨z, hz⟩ := row3_at (HT.out.under hB) hlt2
            have HB := Lib.hid hB
            clear hB
            go_wp2_with fail
            refine (parse_ans fl z V _ HEV.out HB.out HFS.out).mono ?_
            rintro e w8 ⟨k, nm, t1, F, A, B, C, L, u, er, hT, rfl, hR, g8⟩
            obtain ⟨Au, cu, rfl, -⟩ := id hR
            have b8 := HB.out.trans (g8.mono HB.out.size)
            have HT1 := Lib.hid hT
            clear hz HB hT g8
            go_upto_region 17 with fail
            refine forget (fun Y => Below V.heap.size V Y ∧ El.RdIn Y (.slice Au L.length cu) L ∧ Row Y w8.heap.size 26 (repC k (S nm) t1 F A B C (.slice Au L.length cu))) ⟨b8.alloc b8.size _, hR.under ((Below.refl _ _).alloc (Nat.le_refl _) _), Row.new _ _ _⟩ ?_
            clear b8 hR
            generalize w8.heap.size = ga at *
            clear w8
            rintro Y ⟨bY, dY, rY⟩
            have HB := Lib.hid bY
            have HD := Lib.hid dY
            have HR := Lib.hid rY
            clear bY dY rY
            go_wp2_with fail
            refine (refParse_ans fl z _ HFS.out).mono ?_
            rintro e w8 ⟨k', nm', t1', F', A', B', C', L', u', er', hT, rfl, hR, g8⟩
            obtain ⟨rfl, rfl, rfl, rfl, rfl, rfl, rfl, rfl, rfl⟩ := HT1.out.one hT
            obtain ⟨Au', cu', rfl, -⟩ := id hR
            have b8 := HB.out.trans (g8.mono HB.out.size)
            have d8 := HD.out.under g8
            have r8 := HR.out.under g8
            clear HB HD HR hT g8 HT1
            go_upto_region 18 with fail
            refine forget (fun Y => Below V.heap.size V Y ∧ El.RdIn Y (.slice Au L.length cu) L ∧ El.RdIn Y (.slice Au' L.length cu') L ∧ Row Y ga 26 (repC k (S nm) t1 F A B C (.slice Au L.length cu)) ∧ Row Y w8.heap.size 26 (repC k (S nm) t1 F A B C (.slice Au' L.length cu'))) ⟨b8.alloc b8.size _, d8.under ((Below.refl _ _).alloc (Nat.le_refl _) _), hR.under ((Below.refl _ _).alloc (Nat.le_refl _) _), r8.alloc _, Row.new _ _ _⟩ ?_
            clear b8 d8 r8 hR
            generalize w8.heap.size = gb at *
            clear w8
            rintro Y ⟨bY, dY, dY', rY, rY'⟩
            have FS := Lib.hid (fun W (h1 : El.RdIn W (.slice Au L.length cu) L) (h2 : El.RdIn W (.slice Au' L.length cu') L) => same_self k (S nm) t1 F A B C (.slice Au L.length cu) (.slice Au' L.length cu') L W h1 h2)
            have HB := Lib.hid bY
            have HD := Lib.hid dY
            have HD2 := Lib.hid dY'
            obtain ⟨p0, p1, p2, p3, p4, p5, p6, p7⟩ := row8 rY
            obtain ⟨d0, d1, d2, d3, d4, d5, d6, d7⟩ := row8 rY'
            clear bY dY dY' rY rY'
            have q1 : (er != er) = false := by simp
            go_wp2_with fail
            refine (FS.out _ HD.out HD2.out).mono ?_
            rintro e w9 ⟨rfl, g9⟩
            have BQ := Lib.hid (HB.out.trans (g9.mono HB.out.size))
            clear p0 p1 p2 p3 p4 p5 p6 p7 d0 d1 d2 d3 d4 d5 d6 d7 g9 HB HD HD2 FS q1
            go_wp2_with fail
            go_roundw
            case rel => exact ⟨j2 + 1, by omega, by go_num, BQ.out⟩
            case measure => simp [intOf]; omega
          · have k2 : ¬ (j2 : Int) < 3 := by omega
            have P9 := Lib.hid (HPV.out.under hB)
            clear hB
            go_wp2_with fail
            go_roundw
            case rel => exact ⟨i + 1, by omega, by go_num, P9.out⟩
            case measure => simp [intOf]; omega
      · have k1 : ¬ (i : Int) < 8 := by omega
        have HP := Lib.hid hP
        clear hP
        go_wp2_with fail
        refine (awake_from (w0 := w) _ (HE.out.under HP.out.src.below) HP.out.src.below).mono ?_
        rintro e v9 ⟨rfl, g9⟩
        have B9 := Lib.hid g9; clear g9
        go_wp2_with fail
        go_ret
        exact ⟨rfl, B9.out⟩
end Go.Proofs.YtneglkfcelpdgaaGreatDoor
