/- The walk of BulletinParses: for all texts, numbers and bytes the law returns true. -/
import Derived.Test.YtfnlgfacadmjpaaGreatDoorBPb
import Derived.Test.YtfnlgfacadmjpaaGreatDoorBFr
import Derived.Test.YtfnlgfacadmjpaaGreatDoorBAk
import Derived.Laws.BytesArg
import Derived.Laws.IdiomStrings
import Derived.BigRegion
namespace Go.Proofs.YtfnlgfacadmjpaaGreatDoor.Bu
open Go.RowKit

/-- Block g holds n bytes that may be written. -/
def Byr (n : Nat) (w : World) (g : Nat) : Prop := ∃ (C : Array Value) (fr : Nat × Nat), w.heap[g]? = some (.cells C 5 fr) ∧ n ≤ fr.1 ∧ ∀ j, j < n → ∃ z : Int, C[j]? = some (.int .u8 z)
section
variable {n : Nat} {w w' : World} {g : Nat}
theorem Byr.at (h : Byr n w g) (j : Nat) (hj : j < n) : ∃ z : Int, w.cell? ⟨g, j, none⟩ = some (.int .u8 z) ∧ w.frozen? ⟨g, j, none⟩ = false := by
  obtain ⟨C, fr, h1, h2, h3⟩ := h
  obtain ⟨z, e⟩ := h3 j hj
  refine ⟨z, ?_, ?_⟩
  · unfold World.cell?; rw [h1]; exact e
  · unfold World.frozen?; rw [h1]; simp; omega
theorem Byr.set (h : Byr n w g) (k : Nat) (z : Int) : Byr n (w.setCell ⟨g, k, none⟩ (.int .u8 z)) g := by
  obtain ⟨C, fr, h1, h2, h3⟩ := h
  refine ⟨C.setIfInBounds k (.int .u8 z), fr, by simp [World.setCell, Array.getElem?_modify, h1], h2, fun j hj => ?_⟩
  obtain ⟨x, e⟩ := h3 j hj
  by_cases hk : k = j
  · subst hk
    refine ⟨z, ?_⟩
    have hlt := (Array.getElem?_eq_some_iff.1 e).1
    rw [Array.getElem?_setIfInBounds]; simp [hlt]
  · exact ⟨x, by rw [Array.getElem?_setIfInBounds]; simp [hk, e]⟩
theorem Byr.lt (h : Byr n w g) : g < w.heap.size := by
  obtain ⟨C, fr, h1, h2, h3⟩ := h
  exact (Array.getElem?_eq_some_iff.1 h1).1
theorem Byr.under (h : Byr n w g) (hb : Below w.heap.size w w') : Byr n w' g := by
  obtain ⟨C, fr, h1, h2, h3⟩ := h
  exact ⟨C, fr, (hb.block g (Byr.lt ⟨C, fr, h1, h2, h3⟩)).trans h1, h2, h3⟩
/-- What '[]byte(t)' lays. -/
theorem Byr.new (w : World) (s : ByteArray) (cap : Nat) : Byr s.size (w.alloc (.cells (bytesRow s cap) 5 ((bytesRow s cap).size, (bytesRow s cap).size + 1))) w.heap.size := by
  have hs : s.data.size = s.size := rfl
  refine ⟨_, _, heap_alloc_new w _, ?_, fun j hj => ?_⟩
  · show s.size ≤ (bytesRow s cap).size
    unfold bytesRow; simp only [Array.size_append, Array.size_map]; omega
  · exact ⟨_, bytesRow_at s cap j (by omega)⟩
/-- 'string(b)' of them is some text of n bytes, in every world that holds them as they are. -/
theorem Byr.text (h : Byr n w g) (cap : Nat) : ∃ s : ByteArray, s.size = n ∧ ∀ w', Below w.heap.size w w' →
    (convert 40 9 (.slice (some ⟨g, 0, none⟩) n cap)).run Tryz.prog w' = .ok (.string s) w' := by
  have hx : ∃ xs : List Int, xs.length = n ∧ ∀ i, i < n → w.cell? ⟨g, 0 + i, none⟩ = some (.int .u8 (xs.getD i 0)) := by
    refine ⟨(List.range n).map fun j => match w.cell? ⟨g, j, none⟩ with | some (.int .u8 z) => z | _ => 0, by simp, fun i hi => ?_⟩
    obtain ⟨z, e, -⟩ := h.at i hi
    rw [Nat.zero_add, e, List.getD_eq_getElem?_getD, List.getElem?_map, List.getElem?_range hi]
    simp [e]
  obtain ⟨xs, hl, hc⟩ := hx
  have hg := h.lt
  exact ⟨strOfNums xs, by rw [strOfNums_size, hl], fun w' hb => run_convert_bytes_arg (P := Tryz.prog) w' 40 5 Tryz.underlying40 Tryz.underlying5 g 0 n cap xs hl (fun i hi => (hb.cell (p := ⟨g, 0 + i, none⟩) hg).trans (hc i hi)) 9 Tryz.underlying9⟩
end
theorem both_parse7 (y : ByteArray) (near : Int) : ∃ (c : ByteArray) (t cor del er : Int) (Q : List Qr) (D : List Int),
    (∀ w, Env w → Calls Tryz.prog 22 #[.string y, .int .i64 near] w (Rd6 w c t cor del er Q D)) ∧
    ∀ w, Calls Tryz.prog 23 #[.string y, .int .i64 near] w (Rd6 w c t cor del er Q D) := by
  obtain ⟨c, t, cor, del, er, Q, D, -, h1, h2⟩ := both_parse6 y.data.toList near
  rw [S_of] at h1 h2
  exact ⟨c, t, cor, del, er, Q, D, h1, h2⟩
theorem two_ints {w : World} {gk : Nat} {t : TypeId} {n m : Int} (h : Row w gk t #[.int .i64 n, .int .i64 m]) {i : Nat} (hi : i < 2) : ∃ x : Int, w.cell? ⟨gk, i, none⟩ = some (.int .i64 x) := by
  rcases (by omega : i = 0 ∨ i = 1) with rfl | rfl
  · exact ⟨n, (h.cell 0).trans rfl⟩
  · exact ⟨m, (h.cell 1).trans rfl⟩
/-- A row of nine texts. -/
def Nine (w : World) (q : Nat) : Prop := ∃ f0 f1 f2 f3 f4 f5 f6 f7 f8 : ByteArray, Row w q 9 #[.string f0, .string f1, .string f2, .string f3, .string f4, .string f5, .string f6, .string f7, .string f8]
theorem Nine.under {w w' : World} {q : Nat} (h : Nine w q) (hb : Below w.heap.size w w') : Nine w' q := by
  obtain ⟨f0, f1, f2, f3, f4, f5, f6, f7, f8, r⟩ := h
  exact ⟨f0, f1, f2, f3, f4, f5, f6, f7, f8, r.under hb⟩
theorem Nine.at {w : World} {g : Nat} (h : Nine w g) {i : Nat} (hi : i < 9) : ∃ y : ByteArray, w.cell? ⟨g, i, none⟩ = some (.string y) := by
  obtain ⟨f0, f1, f2, f3, f4, f5, f6, f7, f8, h⟩ := h
  rcases (by omega : i = 0 ∨ i = 1 ∨ i = 2 ∨ i = 3 ∨ i = 4 ∨ i = 5 ∨ i = 6 ∨ i = 7 ∨ i = 8) with rfl | rfl | rfl | rfl | rfl | rfl | rfl | rfl | rfl
  · exact ⟨_, (h.cell 0).trans rfl⟩
  · exact ⟨_, (h.cell 1).trans rfl⟩
  · exact ⟨_, (h.cell 2).trans rfl⟩
  · exact ⟨_, (h.cell 3).trans rfl⟩
  · exact ⟨_, (h.cell 4).trans rfl⟩
  · exact ⟨_, (h.cell 5).trans rfl⟩
  · exact ⟨_, (h.cell 6).trans rfl⟩
  · exact ⟨_, (h.cell 7).trans rfl⟩
  · exact ⟨_, (h.cell 8).trans rfl⟩
/-- What is known while the texts are read. -/
structure Pw (W : World) (b base : Nat) (R : List Rp) (v : Value) (g4 : Nat) (c : ByteArray) (t cor del : Int) (gs : Nat) (Y : World) : Prop where
  rm : RM W b base R v Y
  box : Row Y g4 24 (bulC c t cor del v)
  txs : Nine Y gs
theorem Pw.under {W Y Y' : World} {b base g4 gs : Nat} {R : List Rp} {v : Value} {c : ByteArray} {t cor del : Int} (h : Pw W b base R v g4 c t cor del gs Y) (hb : Below Y.heap.size Y Y') : Pw W b base R v g4 c t cor del gs Y' :=
  ⟨h.rm.under hb, h.box.under hb, h.txs.under hb⟩
set_option maxRecDepth 100000 in
set_option maxHeartbeats 40000000 in
theorem bulletinParses_any (text line : ByteArray) (v : Value) (near at_ a2 : Int) (w : World) (hE : Env w) (hl : ListIn w v) (hx : I64 at_) :
    Calls Tryz.prog 4 #[.string text, .string line, v, .int .i64 near, .int .i64 at_, .int .u8 a2] w fun e w' => e = .returned (.bool true) ∧ Below w.heap.size w w' := by
  have HE := Lib.hid hE
  clear hE
  by_cases hlen : 600 < text.size
  · have hlen' : (600 : Int) < (text.size : Int) := by omega
    clear hl hx
    go_enter Tryz.func4, Tryz.ntmps4
    go_wp2_with fail
    refine (awake_from (w0 := w) _ HE.out (Below.refl _ _)).mono ?_
    rintro e wA ⟨rfl, hb⟩
    have HFin := Lib.hid hb
    clear hb
    go_wp2_with fail
    go_ret
    exact ⟨rfl, HFin.out⟩
  have hlen' : ¬ (600 : Int) < (text.size : Int) := by omega
  by_cases hwd : 80 < line.size
  · have hwd' : (80 : Int) < (line.size : Int) := by omega
    clear hl hx
    go_enter Tryz.func4, Tryz.ntmps4
    go_wp2_with fail
    refine (awake_from (w0 := w) _ HE.out (Below.refl _ _)).mono ?_
    rintro e wA ⟨rfl, hb⟩
    have HFin := Lib.hid hb
    clear hb
    go_wp2_with fail
    go_ret
    exact ⟨rfl, HFin.out⟩
  have hwd' : ¬ (80 : Int) < (line.size : Int) := by omega
  go_enter Tryz.func4, Tryz.ntmps4
  go_wp2_with fail
  refine (new_any _ _ hl).mono ?_
  rintro e w1 ⟨rfl, s1, -⟩
  obtain ⟨b, hb0⟩ : ∃ b, w.heap.size = b := ⟨_, rfl⟩
  have HB0 := Lib.hid hb0
  rw [hb0] at s1 ⊢
  clear hb0
  go_wp2_with fail
  refine (made_any w b w1 4 s1 (by decide)).mono ?_
  rintro e w2 ⟨c, t, cor, del, R, vr, base, rfl, hV, hR6, hM⟩
  obtain ⟨Ar, cr, er⟩ := row_form hM.own
  subst er
  have hb3 : Below w2.heap.size w2 (w2.alloc (.cells (bulC (S c) t cor del (.slice Ar R.length cr)) 24)) := (Below.refl _ _).alloc (Nat.le_refl _) _
  have H3 := Lib.hid (⟨hM.under hb3, Row.new _ _ _⟩ : RM w b base R (.slice Ar R.length cr) (w2.alloc (.cells (bulC (S c) t cor del (.slice Ar R.length cr)) 24)) ∧ Row (w2.alloc (.cells (bulC (S c) t cor del (.slice Ar R.length cr)) 24)) w2.heap.size 24 (bulC (S c) t cor del (.slice Ar R.length cr)))
  have HFo := Lib.hid (fun Y (hR : RpsIn Y (.slice Ar R.length cr) R) => refFormat6 c t cor del (.slice Ar R.length cr) R Y hR hV (by omega))
  have HX := Lib.hid hx
  clear hM hb3 hV s1 hx hl
  generalize hsc : S c = sc at *
  clear hsc
  go_upto_region 5 with fail
  refine forget (fun V => Hid (RM w b base R (.slice Ar R.length cr) V ∧ Row V w2.heap.size 24 (bulC sc t cor del (.slice Ar R.length cr)))) H3 ?_
  clear H3
  generalize w2.heap.size = g4 at *
  intro w3 H3
  obtain ⟨q0, q1, q2, q3, q4⟩ := row5 H3.out.2
  go_wp2_with fail
  refine (HFo.out _ H3.out.1.ins).mono ?_
  rintro e w4 ⟨⟨TX, kE, hTX, rfl⟩, hb⟩
  have H4 := Lib.hid (⟨H3.out.1.under hb, H3.out.2.under hb⟩ : RM w b base R (.slice Ar R.length cr) w4 ∧ Row w4 g4 24 (bulC sc t cor del (.slice Ar R.length cr)))
  clear hb H3 HFo q0 q1 q2 q3 q4
  obtain ⟨tx, htx⟩ : ∃ tx, S TX = tx := ⟨_, rfl⟩
  have htz : tx.size ≤ 4000 := by rw [← htx, S_size]; exact hTX
  rw [htx]
  clear htx hTX TX
  obtain ⟨ts, hts⟩ : ∃ ts, tx.size = ts := ⟨_, rfl⟩
  have ts2 : ts ≤ 4000 := by omega
  clear htz
  have HM := Lib.hid (fun W => mod_any at_ ((ts : Int) + 1) W HX.out (by omega) (by omega))
  have o1 : 0 ≤ at_ % ((ts : Int) + 1) := Int.emod_nonneg _ (by omega)
  have o2 : at_ % ((ts : Int) + 1) < (ts : Int) + 1 := Int.emod_lt_of_pos _ (by omega)
  go_wp2_with fail
  refine (HM.out _).mono ?_
  rintro e w5 ⟨rfl, rfl⟩
  clear HM HX
  generalize at_ % ((ts : Int) + 1) = k at *
  obtain ⟨j, rfl⟩ := Int.eq_ofNat_of_zero_le o1
  have o3 : j ≤ ts := by omega
  clear o1 o2
  have kc := run_bytes_of_string (P := Tryz.prog) w4 9 40 5 tx Tryz.underlying9 Tryz.underlying40 Tryz.underlying5
  go_upto_region 8 with fail
  refine forget (fun V => Below w4.heap.size w4 V ∧ Byr ts V w4.heap.size) ⟨(Below.refl _ _).drew.alloc (Nat.le_refl _) _, by rw [← hts]; exact Byr.new w4.drew tx _⟩ ?_
  clear kc
  generalize grownCap w4 _ 0 5 = cap at *
  rintro Y ⟨sY, BY⟩
  have j0 : (0 : Int) ≤ (j : Int) := by omega
  have SYY := Lib.hid sY
  have BYY := Lib.hid BY
  clear sY BY
  go_upto_region 8 with fail
  go_upto_if 57 with fail
  go_cut [] from 57 to 64 (fun Z => Hid ((RM w b base R (.slice Ar R.length cr) Z ∧ Row Z g4 24 (bulC sc t cor del (.slice Ar R.length cr))) ∧ Byr ts Z w4.heap.size))
  case first =>
    by_cases hj : j < ts
    rotate_left
    · have hj' : ¬ (j : Int) < (ts : Int) := by omega
      go_wp2_with fail
      go_meet
      exact Lib.hid ⟨⟨H4.out.1.under SYY.out, H4.out.2.under SYY.out⟩, BYY.out⟩
    · have hj' : (j : Int) < (ts : Int) := by omega
      obtain ⟨z, hz, hfz⟩ := BYY.out.at j hj
      go_wp2_with fail
      go_meet
      exact Lib.hid ⟨⟨H4.out.1.under (SYY.out.setCell (p := ⟨w4.heap.size, j, none⟩) (Nat.le_refl _) _), H4.out.2.under (SYY.out.setCell (p := ⟨w4.heap.size, j, none⟩) (Nat.le_refl _) _)⟩, BYY.out.set j _⟩
  case rest =>
    have sZ := hcut.out.1
    have BZ := hcut.out.2
    clear hcut
    generalize hZZ : wc = Z at *
    clear hZZ
    clear SYY BYY j0 H4
    generalize w4.heap.size = g at *
    go_upto_region 10 with fail
    obtain ⟨x, hx, kx⟩ := BZ.text cap
    have SZ := Lib.hid sZ
    clear BZ sZ
    obtain ⟨wl, hwl⟩ : ∃ n, line.size = n := ⟨_, rfl⟩
    have hwl80 : wl ≤ 80 := by omega
    obtain ⟨a0, h0⟩ : ∃ a, tx.extract 0 j = a := ⟨_, rfl⟩
    obtain ⟨a1, h1⟩ : ∃ a, tx.extract j ts = a := ⟨_, rfl⟩
    have z0 : a0.size = j := by rw [← h0, ByteArray.size_extract]; omega
    have z1 : a1.size = ts - j := by rw [← h1, ByteArray.size_extract]; omega
    have kx' : ∀ wx, Below Z.heap.size Z wx → (convert 40 9 (.slice (some ⟨g, 0, none⟩) ts cap)).run Tryz.prog wx = .ok (.string x) wx := kx
    clear kx
    have i0 : (0 : Int) ≤ (j : Int) := by omega
    have i1 : (j : Int) ≤ (ts : Int) := by omega
    have i4 : (ts : Int) ≤ (ts : Int) := by omega
    have n1 : ¬ 9223372036854775807 < j + wl := by omega
    have n2 : ¬ 9223372036854775807 < j + wl + (ts - j) := by omega
    have n3 : ¬ 9223372036854775807 < j + 1 := by omega
    have n4 : ¬ 9223372036854775807 < j + 1 + (ts - j) := by omega
    have n5 : ¬ 9223372036854775807 < ts + wl := by omega
    have n6 : ¬ 9223372036854775807 < ts + 1 := by omega
    have n7 : ¬ 9223372036854775807 < ts + wl + 2 := by omega
    refine wp_region_held_drew (S := fun wx : World => Below Z.heap.size Z wx) (by kernel_rfl) (Below.refl Z.heap.size Z).drew (fun hHeld => ?_)
    refine wpAnyH_take (i := 0) (oi := ⟨some 65, _, _, _, _, none⟩) (v := ?_) rfl (by kernel_rfl) (by kernel_rfl) (by kernel_rfl) (fun _ _ _ h => h) (Or.inl ⟨by rfl, ?_⟩) (by assumption) ?_
    case refine_2 => (intro wx hSx; (try dsimp only at hSx); go_simp; first | done | with_reducible rfl)
    try simp only [Act.put, List.setIfInBounds_toArray, List.set_cons_zero, List.set_cons_succ]
    refine wpAnyH_take (i := 1) (oi := ⟨some 66, _, _, _, _, none⟩) (v := ?_) rfl (by kernel_rfl) (by kernel_rfl) (by kernel_rfl) (fun _ _ _ h => h) (Or.inl ⟨by rfl, ?_⟩) (by assumption) ?_
    case refine_2 => (intro wx hSx; (try dsimp only at hSx); go_simp; first | done | with_reducible rfl)
    try simp only [Act.put, List.setIfInBounds_toArray, List.set_cons_zero, List.set_cons_succ]
    refine wpAnyH_take (i := 2) (oi := ⟨some 67, _, _, _, _, none⟩) (v := ?_) rfl (by kernel_rfl) (by kernel_rfl) (by kernel_rfl) (fun _ _ _ h => h) (Or.inl ⟨by rfl, ?_⟩) (by assumption) ?_
    case refine_2 => (intro wx hSx; (try dsimp only at hSx); go_simp; first | done | with_reducible rfl)
    try simp only [Act.put, List.setIfInBounds_toArray, List.set_cons_zero, List.set_cons_succ]
    refine wpAnyH_take (i := 3) (oi := ⟨some 68, _, _, _, _, none⟩) (v := ?_) rfl (by kernel_rfl) (by kernel_rfl) (by kernel_rfl) (fun _ _ _ h => h) (Or.inl ⟨by rfl, ?_⟩) (by assumption) ?_
    case refine_2 =>
      intro wx hSx
      have hk := kx' wx hSx
      (try dsimp only at hSx)
      go_simp
      with_reducible rfl
    try simp only [Act.put, List.setIfInBounds_toArray, List.set_cons_zero, List.set_cons_succ]
    refine wpAnyH_take (i := 4) (oi := ⟨some 69, _, _, _, _, none⟩) (v := ?_) rfl (by kernel_rfl) (by kernel_rfl) (by kernel_rfl) (fun _ _ _ h => h) (Or.inl ⟨by rfl, ?_⟩) (by assumption) ?_
    case refine_2 => (intro wx hSx; (try dsimp only at hSx); go_simp; first | done | with_reducible rfl)
    try simp only [Act.put, List.setIfInBounds_toArray, List.set_cons_zero, List.set_cons_succ]
    refine wpAnyH_take (i := 5) (oi := ⟨some 70, _, _, _, _, none⟩) (v := ?_) rfl (by kernel_rfl) (by kernel_rfl) (by kernel_rfl) (fun _ _ _ h => h) (Or.inl ⟨by rfl, ?_⟩) (by assumption) ?_
    case refine_2 => (intro wx hSx; (try dsimp only at hSx); go_simp; first | done | with_reducible rfl)
    try simp only [Act.put, List.setIfInBounds_toArray, List.set_cons_zero, List.set_cons_succ]
    refine wpAnyH_take (i := 6) (oi := ⟨some 71, _, _, _, _, none⟩) (v := ?_) rfl (by kernel_rfl) (by kernel_rfl) (by kernel_rfl) (fun _ _ _ h => h) (Or.inl ⟨by rfl, ?_⟩) (by assumption) ?_
    case refine_2 => (intro wx hSx; (try dsimp only at hSx); go_simp; first | done | with_reducible rfl)
    try simp only [Act.put, List.setIfInBounds_toArray, List.set_cons_zero, List.set_cons_succ]
    refine wpAnyH_take (i := 7) (oi := ⟨some 72, _, _, _, _, none⟩) (v := ?_) rfl (by kernel_rfl) (by kernel_rfl) (by kernel_rfl) (fun _ _ _ h => h) (Or.inl ⟨by rfl, ?_⟩) (by assumption) ?_
    case refine_2 => (intro wx hSx; (try dsimp only at hSx); go_simp; first | done | with_reducible rfl)
    try simp only [Act.put, List.setIfInBounds_toArray, List.set_cons_zero, List.set_cons_succ]
    refine wpAnyH_take (i := 8) (oi := ⟨some 73, _, _, _, _, none⟩) (v := ?_) rfl (by kernel_rfl) (by kernel_rfl) (by kernel_rfl) (fun _ _ _ h => h) (Or.inl ⟨by rfl, ?_⟩) (by assumption) ?_
    case refine_2 => (intro wx hSx; (try dsimp only at hSx); go_simp; first | done | with_reducible rfl)
    try simp only [Act.put, List.setIfInBounds_toArray, List.set_cons_zero, List.set_cons_succ]
    refine wpAnyH_take (i := 9) (oi := ⟨some 74, _, _, _, _, none⟩) (v := ?_) rfl (by kernel_rfl) (by kernel_rfl) (by kernel_rfl) (fun _ _ _ h => h) (Or.inl ⟨by rfl, ?_⟩) (by assumption) ?_
    case refine_2 => (intro wx hSx; (try dsimp only at hSx); go_simp; first | done | with_reducible rfl)
    try simp only [Act.put, List.setIfInBounds_toArray, List.set_cons_zero, List.set_cons_succ]
    refine wpAnyH_take (i := 10) (oi := ⟨some 75, _, _, _, _, none⟩) (v := ?_) rfl (by kernel_rfl) (by kernel_rfl) (by kernel_rfl) (fun _ _ _ h => h) (Or.inl ⟨by rfl, ?_⟩) (by assumption) ?_
    case refine_2 => (intro wx hSx; (try dsimp only at hSx); go_simp; first | done | with_reducible rfl)
    try simp only [Act.put, List.setIfInBounds_toArray, List.set_cons_zero, List.set_cons_succ]
    refine wpAnyH_take (i := 11) (oi := ⟨some 76, _, _, _, _, none⟩) (v := ?_) rfl (by kernel_rfl) (by kernel_rfl) (by kernel_rfl) (fun _ _ _ h => h) (Or.inl ⟨by rfl, ?_⟩) (by assumption) ?_
    case refine_2 => (intro wx hSx; (try dsimp only at hSx); go_simp; first | done | with_reducible rfl)
    try simp only [Act.put, List.setIfInBounds_toArray, List.set_cons_zero, List.set_cons_succ]
    refine wpAnyH_take (i := 12) (oi := ⟨some 77, _, _, _, _, none⟩) (v := ?_) rfl (by kernel_rfl) (by kernel_rfl) (by kernel_rfl) (fun _ _ _ h => h) (Or.inl ⟨by rfl, ?_⟩) (by assumption) ?_
    case refine_2 => (intro wx hSx; (try dsimp only at hSx); go_simp; first | done | with_reducible rfl)
    try simp only [Act.put, List.setIfInBounds_toArray, List.set_cons_zero, List.set_cons_succ]
    refine wpAnyH_take (i := 13) (oi := ⟨some 78, _, _, _, _, none⟩) (v := ?_) rfl (by kernel_rfl) (by kernel_rfl) (by kernel_rfl) (fun _ _ _ h => h) (Or.inl ⟨by rfl, ?_⟩) (by assumption) ?_
    case refine_2 => (intro wx hSx; (try dsimp only at hSx); go_simp; first | done | with_reducible rfl)
    try simp only [Act.put, List.setIfInBounds_toArray, List.set_cons_zero, List.set_cons_succ]
    refine wpAnyH_take (i := 14) (oi := ⟨some 79, _, _, _, _, none⟩) (v := ?_) rfl (by kernel_rfl) (by kernel_rfl) (by kernel_rfl) (fun _ _ _ h => h) (Or.inl ⟨by rfl, ?_⟩) (by assumption) ?_
    case refine_2 => (intro wx hSx; (try dsimp only at hSx); go_simp; first | done | with_reducible rfl)
    try simp only [Act.put, List.setIfInBounds_toArray, List.set_cons_zero, List.set_cons_succ]
    refine wpAnyH_take (i := 15) (oi := ⟨some 80, _, _, _, _, none⟩) (v := ?_) rfl (by kernel_rfl) (by kernel_rfl) (by kernel_rfl) (fun _ _ _ h => h) (Or.inl ⟨by rfl, ?_⟩) (by assumption) ?_
    case refine_2 => (intro wx hSx; (try dsimp only at hSx); go_simp; first | done | with_reducible rfl)
    try simp only [Act.put, List.setIfInBounds_toArray, List.set_cons_zero, List.set_cons_succ]
    refine wpAnyH_take (i := 16) (oi := ⟨some 81, _, _, _, _, none⟩) (v := ?_) rfl (by kernel_rfl) (by kernel_rfl) (by kernel_rfl) (fun _ _ _ h => h) (Or.inl ⟨by rfl, ?_⟩) (by assumption) ?_
    case refine_2 => (intro wx hSx; (try dsimp only at hSx); go_simp; first | done | with_reducible rfl)
    try simp only [Act.put, List.setIfInBounds_toArray, List.set_cons_zero, List.set_cons_succ]
    refine wpAnyH_take (i := 17) (oi := ⟨some 82, _, _, _, _, none⟩) (v := ?_) rfl (by kernel_rfl) (by kernel_rfl) (by kernel_rfl) (fun _ _ _ h => h) (Or.inl ⟨by rfl, ?_⟩) (by assumption) ?_
    case refine_2 => (intro wx hSx; (try dsimp only at hSx); go_simp; first | done | with_reducible rfl)
    try simp only [Act.put, List.setIfInBounds_toArray, List.set_cons_zero, List.set_cons_succ]
    refine wpAnyH_take (i := 18) (oi := ⟨some 83, _, _, _, _, none⟩) (v := ?_) rfl (by kernel_rfl) (by kernel_rfl) (by kernel_rfl) (fun _ _ _ h => h) (Or.inl ⟨by rfl, ?_⟩) (by assumption) ?_
    case refine_2 => (intro wx hSx; (try dsimp only at hSx); go_simp; first | done | with_reducible rfl)
    try simp only [Act.put, List.setIfInBounds_toArray, List.set_cons_zero, List.set_cons_succ]
    refine wpAnyH_take (i := 19) (oi := ⟨some 84, _, _, _, _, none⟩) (v := ?_) rfl (by kernel_rfl) (by kernel_rfl) (by kernel_rfl) (fun _ _ _ h => h) (Or.inl ⟨by rfl, ?_⟩) (by assumption) ?_
    case refine_2 => (intro wx hSx; (try dsimp only at hSx); go_simp; first | done | with_reducible rfl)
    try simp only [Act.put, List.setIfInBounds_toArray, List.set_cons_zero, List.set_cons_succ]
    refine wpAnyH_take (i := 20) (oi := ⟨some 85, _, _, _, _, none⟩) (v := ?_) rfl (by kernel_rfl) (by kernel_rfl) (by kernel_rfl) (fun _ _ _ h => h) (Or.inl ⟨by rfl, ?_⟩) (by assumption) ?_
    case refine_2 => (intro wx hSx; (try dsimp only at hSx); go_simp; first | done | with_reducible rfl)
    try simp only [Act.put, List.setIfInBounds_toArray, List.set_cons_zero, List.set_cons_succ]
    refine wpAnyH_take (i := 21) (oi := ⟨some 86, _, _, _, _, none⟩) (v := ?_) rfl (by kernel_rfl) (by kernel_rfl) (by kernel_rfl) (fun _ _ _ h => h) (Or.inl ⟨by rfl, ?_⟩) (by assumption) ?_
    case refine_2 => (intro wx hSx; (try dsimp only at hSx); go_simp; first | done | with_reducible rfl)
    try simp only [Act.put, List.setIfInBounds_toArray, List.set_cons_zero, List.set_cons_succ]
    refine wpAnyH_take (i := 22) (oi := ⟨some 87, _, _, _, _, none⟩) (v := ?_) rfl (by kernel_rfl) (by kernel_rfl) (by kernel_rfl) (fun _ _ _ h => h) (Or.inl ⟨by rfl, ?_⟩) (by assumption) ?_
    case refine_2 => (intro wx hSx; (try dsimp only at hSx); go_simp; first | done | with_reducible rfl)
    try simp only [Act.put, List.setIfInBounds_toArray, List.set_cons_zero, List.set_cons_succ]
    refine wpAnyH_take (i := 23) (oi := ⟨some 88, _, _, _, _, none⟩) (v := ?_) rfl (by kernel_rfl) (by kernel_rfl) (by kernel_rfl) (fun _ _ _ h => h) (Or.inl ⟨by rfl, ?_⟩) (by assumption) ?_
    case refine_2 => (intro wx hSx; (try dsimp only at hSx); go_simp; first | done | with_reducible rfl)
    try simp only [Act.put, List.setIfInBounds_toArray, List.set_cons_zero, List.set_cons_succ]
    refine wpAnyH_take (i := 24) (oi := ⟨some 89, _, _, _, _, none⟩) (v := ?_) rfl (by kernel_rfl) (by kernel_rfl) (by kernel_rfl) (fun _ _ _ h => h) (Or.inl ⟨by rfl, ?_⟩) (by assumption) ?_
    case refine_2 => (intro wx hSx; (try dsimp only at hSx); go_simp; first | done | with_reducible rfl)
    try simp only [Act.put, List.setIfInBounds_toArray, List.set_cons_zero, List.set_cons_succ]
    refine wpAnyH_take (i := 25) (oi := ⟨some 90, _, _, _, _, none⟩) (v := ?_) rfl (by kernel_rfl) (by kernel_rfl) (by kernel_rfl) (fun _ _ _ h => h) (Or.inl ⟨by rfl, ?_⟩) (by assumption) ?_
    case refine_2 => (intro wx hSx; (try dsimp only at hSx); go_simp; first | done | with_reducible rfl)
    try simp only [Act.put, List.setIfInBounds_toArray, List.set_cons_zero, List.set_cons_succ]
    refine wpAnyH_take (i := 26) (oi := ⟨some 91, _, _, _, _, none⟩) (v := ?_) rfl (by kernel_rfl) (by kernel_rfl) (by kernel_rfl) (fun _ _ _ h => h) (Or.inl ⟨by rfl, ?_⟩) (by assumption) ?_
    case refine_2 => (intro wx hSx; (try dsimp only at hSx); go_simp; first | done | with_reducible rfl)
    try simp only [Act.put, List.setIfInBounds_toArray, List.set_cons_zero, List.set_cons_succ]
    refine wpAnyH_take (i := 27) (oi := ⟨some 92, _, _, _, _, none⟩) (v := ?_) rfl (by kernel_rfl) (by kernel_rfl) (by kernel_rfl) (fun _ _ _ h => h) (Or.inl ⟨by rfl, ?_⟩) (by assumption) ?_
    case refine_2 => (intro wx hSx; (try dsimp only at hSx); go_simp; first | done | with_reducible rfl)
    try simp only [Act.put, List.setIfInBounds_toArray, List.set_cons_zero, List.set_cons_succ]
    refine wpAnyH_take (i := 28) (oi := ⟨some 93, _, _, _, _, none⟩) (v := ?_) rfl (by kernel_rfl) (by kernel_rfl) (by kernel_rfl) (fun _ _ _ h => h) (Or.inl ⟨by rfl, ?_⟩) (by assumption) ?_
    case refine_2 => (intro wx hSx; (try dsimp only at hSx); go_simp; first | done | with_reducible rfl)
    try simp only [Act.put, List.setIfInBounds_toArray, List.set_cons_zero, List.set_cons_succ]
    refine wpAnyH_take (i := 29) (oi := ⟨some 94, _, _, _, _, none⟩) (v := ?_) rfl (by kernel_rfl) (by kernel_rfl) (by kernel_rfl) (fun _ _ _ h => h) (Or.inl ⟨by rfl, ?_⟩) (by assumption) ?_
    case refine_2 => (intro wx hSx; (try dsimp only at hSx); go_simp; first | done | with_reducible rfl)
    try simp only [Act.put, List.setIfInBounds_toArray, List.set_cons_zero, List.set_cons_succ]
    refine wpAnyH_take (i := 30) (oi := ⟨some 95, _, _, _, _, none⟩) (v := ?_) rfl (by kernel_rfl) (by kernel_rfl) (by kernel_rfl) (fun _ _ _ h => h) (Or.inl ⟨by rfl, ?_⟩) (by assumption) ?_
    case refine_2 => (intro wx hSx; (try dsimp only at hSx); go_simp; first | done | with_reducible rfl)
    try simp only [Act.put, List.setIfInBounds_toArray, List.set_cons_zero, List.set_cons_succ]
    refine wpAnyH_take (i := 31) (oi := ⟨some 96, _, _, _, _, none⟩) (v := ?_) rfl (by kernel_rfl) (by kernel_rfl) (by kernel_rfl) (fun _ _ _ h => h) (Or.inl ⟨by rfl, ?_⟩) (by assumption) ?_
    case refine_2 => (intro wx hSx; (try dsimp only at hSx); go_simp; first | done | with_reducible rfl)
    try simp only [Act.put, List.setIfInBounds_toArray, List.set_cons_zero, List.set_cons_succ]
    refine wpAnyH_take (i := 32) (oi := ⟨some 97, _, _, _, _, none⟩) (v := ?_) rfl (by kernel_rfl) (by kernel_rfl) (by kernel_rfl) (fun _ _ _ h => h) (Or.inl ⟨by rfl, ?_⟩) (by assumption) ?_
    case refine_2 => (intro wx hSx; (try dsimp only at hSx); go_simp; first | done | with_reducible rfl)
    try simp only [Act.put, List.setIfInBounds_toArray, List.set_cons_zero, List.set_cons_succ]
    refine wpAnyH_take (i := 35) (oi := ⟨some 100, _, _, _, _, none⟩) (v := ?_) rfl (by kernel_rfl) (by kernel_rfl) (by kernel_rfl) (fun _ _ _ h => h) (Or.inl ⟨by rfl, ?_⟩) (by assumption) ?_
    case refine_2 => (intro wx hSx; (try dsimp only at hSx); go_simp; first | done | with_reducible rfl)
    try simp only [Act.put, List.setIfInBounds_toArray, List.set_cons_zero, List.set_cons_succ]
    refine wpAnyH_ready (rs := [33]) (by kernel_rfl) (by simp) ?_
    refine AllReadyH.cons rfl (fun K hK => ?_) AllReadyH.nil
    go_simp
    refine hK.out _ _ ((Below.refl Z.heap.size Z).drew.alloc (Nat.le_refl _) _) (fun hHeld2 => ?_)
    clear hK K hHeld
    try simp only [Act.put, List.setIfInBounds_toArray, List.set_cons_zero, List.set_cons_succ]
    refine wpAnyH_take (i := 34) (oi := ⟨some 99, _, _, _, _, none⟩) (v := ?_) rfl (by kernel_rfl) (by kernel_rfl) (by kernel_rfl) (fun _ _ _ h => h) (Or.inl ⟨by rfl, ?_⟩) (by assumption) ?_
    case refine_2 => (intro wx hSx; (try dsimp only at hSx); go_simp; first | done | with_reducible rfl)
    try simp only [Act.put, List.setIfInBounds_toArray, List.set_cons_zero, List.set_cons_succ]
    refine wpAnyH_done (by kernel_rfl) ?_ _
    go_wp2_with fail
    have rS := Row.new Z #[.string text, .string tx, .string x, .string a0, .string (a0 ++ line ++ a1), .string (a0 ++ ⟨#[10]⟩ ++ a1), .string (tx ++ line), .string (tx ++ ⟨#[10]⟩), .string (tx ++ line ++ ⟨#[61, 10]⟩)] 9
    have Q8 : Pw w b base R (.slice Ar R.length cr) g4 sc t cor del Z.heap.size (Z.alloc (.cells #[.string text, .string tx, .string x, .string a0, .string (a0 ++ line ++ a1), .string (a0 ++ ⟨#[10]⟩ ++ a1), .string (tx ++ line), .string (tx ++ ⟨#[10]⟩), .string (tx ++ line ++ ⟨#[61, 10]⟩)] 9)) := ⟨SZ.out.1.under ((Below.refl _ _).alloc (Nat.le_refl _) _), SZ.out.2.under ((Below.refl _ _).alloc (Nat.le_refl _) _), ⟨_, _, _, _, _, _, _, _, _, rS⟩⟩
    have HQ := Lib.hid Q8
    clear rS Q8 kx' hHeld2 n1 n2 n3 n4 n5 n6 n7 i0 i1 i4 z0 z1 h0 h1 hx SZ hts hwl hwl80 hlen hlen' hwd hwd'
    go_loopw [100] (fun u wr => ∃ i : Nat, i ≤ 9 ∧ u = .int .i64 i ∧ Pw w b base R (.slice Ar R.length cr) g4 sc t cor del Z.heap.size wr) (fun u _ => 9 - (intOf u).toNat)
    case atStart => exact ⟨0, by omega, rfl, HQ.out.under (Below.refl _ _).drew⟩
    case round =>
      clear HQ
      obtain ⟨i, hi, rfl, hP⟩ := hrel
      generalize Z.heap.size = q at *
      by_cases hlt : i < 9
      · have i0 : (0 : Int) ≤ (i : Int) := by omega
        have i1 : (i : Int) < 9 := by omega
        obtain ⟨f, hf⟩ := hP.txs.at hlt
        obtain ⟨q0, q1, q2, q3, q4⟩ := row5 hP.box
        have HP := Lib.hid hP
        clear hP
        go_wp2_with fail
        refine forget (fun Y => Pw w b base R (.slice Ar R.length cr) g4 sc t cor del q Y ∧ Row Y wr.heap.size 3 #[.int .i64 t, .int .i64 near]) ⟨HP.out.under ((Below.refl _ _).alloc (Nat.le_refl _) _), Row.new _ _ _⟩ ?_
        clear HP hf q0 q1 q2 q3 q4 i0 i1
        generalize wr.heap.size = g3 at *
        clear wr
        rintro V ⟨pV, tV⟩
        have HPV := Lib.hid pV
        have HT := Lib.hid (show ∀ (j : Nat), j < 2 → ∀ {W : World}, Below V.heap.size V W → ∃ x : Int, W.cell? ⟨g3, j, none⟩ = some (.int .i64 x) from fun j hj W hb => two_ints (tV.under hb) hj)
        have HEV := Lib.hid (HE.out.under pV.rm.src.below)
        clear pV tV
        go_loopw [109] (fun u wr => ∃ j : Nat, j ≤ 2 ∧ u = .int .i64 j ∧ Below V.heap.size V wr) (fun u _ => 2 - (intOf u).toNat)
        case atStart => exact ⟨0, by omega, rfl, Below.refl _ _⟩
        case round =>
          obtain ⟨j2, hj2, rfl, hB⟩ := hrel
          by_cases hlt2 : j2 < 2
          · have i0b : (0 : Int) ≤ (j2 : Int) := by omega
            have i1b : (j2 : Int) < 2 := by omega
            obtain ⟨z, hz⟩ := HT.out j2 hlt2 hB
            have HB := Lib.hid hB
            clear hB
            obtain ⟨c6, t6, o6, d6, er, Q6, D6, hp1, hp2⟩ := both_parse7 f z
            have F1 := Lib.hid hp1
            have F2 := Lib.hid hp2
            clear hp1 hp2
            go_wp2_with fail
            refine (F1.out _ (HEV.out.under HB.out)).mono ?_
            rintro e w8 h8
            obtain ⟨g8, R1, vr, vd, hk1, rfl, hR, hD⟩ := h8
            obtain ⟨A1, ca1, erv, -⟩ := id hR
            subst erv
            obtain ⟨B1, cb1, edv, -⟩ := id hD
            subst edv
            have b8 := HB.out.trans (g8.mono HB.out.size)
            clear hz HB g8
            go_upto_region 17 with fail
            refine forget (fun Y => Below V.heap.size V Y ∧ RpsIn Y (.slice A1 R1.length ca1) R1 ∧ NumsIn Y (.slice B1 D6.length cb1) D6 ∧ Row Y w8.heap.size 24 (bulC c6 t6 o6 d6 (.slice A1 R1.length ca1))) ⟨b8.alloc b8.size _, hR.under ((Below.refl _ _).alloc (Nat.le_refl _) _), hD.under ((Below.refl _ _).alloc (Nat.le_refl _) _), Row.new _ _ _⟩ ?_
            clear b8 hR hD
            generalize w8.heap.size = ga at *
            clear w8
            rintro Y ⟨bY, dY, nY, rY⟩
            have HB := Lib.hid bY
            have HD := Lib.hid dY
            have HN := Lib.hid nY
            have HR := Lib.hid rY
            clear bY dY nY rY
            go_wp2_with fail
            refine (F2.out _).mono ?_
            rintro e w8 h8
            obtain ⟨g8, R2, vr2, vd2, hk2, rfl, hR, hD⟩ := h8
            obtain ⟨A2, ca2, erv, -⟩ := id hR
            subst erv
            obtain ⟨B2, cb2, edv, -⟩ := id hD
            subst edv
            have b8 := HB.out.trans (g8.mono HB.out.size)
            have d8 := HD.out.under g8
            have n8 := HN.out.under g8
            have r8 := HR.out.under g8
            have HKK := Lib.hid (hk1.trans hk2.symm)
            clear HB HD HN HR g8 F1 F2 hk1 hk2
            go_upto_region 18 with fail
            refine forget (fun Y => Below V.heap.size V Y ∧ RpsIn Y (.slice A1 R1.length ca1) R1 ∧ NumsIn Y (.slice B1 D6.length cb1) D6 ∧ RpsIn Y (.slice A2 R2.length ca2) R2 ∧ NumsIn Y (.slice B2 D6.length cb2) D6 ∧ Row Y ga 24 (bulC c6 t6 o6 d6 (.slice A1 R1.length ca1)) ∧ Row Y w8.heap.size 24 (bulC c6 t6 o6 d6 (.slice A2 R2.length ca2))) ⟨b8.alloc b8.size _, d8.under ((Below.refl _ _).alloc (Nat.le_refl _) _), n8.under ((Below.refl _ _).alloc (Nat.le_refl _) _), hR.under ((Below.refl _ _).alloc (Nat.le_refl _) _), hD.under ((Below.refl _ _).alloc (Nat.le_refl _) _), r8.under ((Below.refl _ _).alloc (Nat.le_refl _) _), Row.new _ _ _⟩ ?_
            clear b8 d8 n8 r8 hR hD
            generalize w8.heap.size = gb at *
            clear w8
            rintro Y ⟨bY, dY, nY, dY', nY', rY, rY'⟩
            have HB := Lib.hid bY
            have FS := Lib.hid (fun W (hb : Below Y.heap.size Y W) => same6_yes c6 t6 o6 d6 (.slice A1 R1.length ca1) (.slice A2 R2.length ca2) R1 R2 W (dY.under hb) (dY'.under hb) HKK.out)
            have FI := Lib.hid (fun W (hb : Below Y.heap.size Y W) => ints_yes (.slice B1 D6.length cb1) (.slice B2 D6.length cb2) D6 W (nY.under hb) (nY'.under hb))
            obtain ⟨p0, p1, p2, p3, p4⟩ := row5 rY
            obtain ⟨d0, d1, d2, d3, d4⟩ := row5 rY'
            clear bY dY nY dY' nY' rY rY'
            have q1 : (er != er) = false := by simp
            go_wp2_with fail
            refine (FS.out _ (Below.refl _ _)).mono ?_
            rintro e w9 ⟨rfl, g9⟩
            have BQ := Lib.hid (HB.out.trans (g9.mono HB.out.size))
            have BY := Lib.hid g9
            clear p0 p1 p2 p3 p4 d0 d1 d2 d3 d4 g9 HB FS q1
            go_wp2_with fail
            refine (FI.out _ BY.out).mono ?_
            rintro e w10 ⟨rfl, g10⟩
            have BR := Lib.hid (BQ.out.trans (g10.mono BQ.out.size))
            clear g10 BQ BY FI
            go_wp2_with fail
            go_roundw
            case rel => exact ⟨j2 + 1, by omega, by go_num, BR.out⟩
            case measure => simp [intOf]; omega
          · have k2 : ¬ (j2 : Int) < 2 := by omega
            have P9 := Lib.hid (HPV.out.under hB)
            clear hB
            go_wp2_with fail
            go_roundw
            case rel => exact ⟨i + 1, by omega, by go_num, P9.out⟩
            case measure => simp [intOf]; omega
      · have k1 : ¬ (i : Int) < 9 := by omega
        have HP := Lib.hid hP
        clear hP
        go_wp2_with fail
        refine (awake_from (w0 := w) _ (HE.out.under HP.out.rm.src.below) HP.out.rm.src.below).mono ?_
        rintro e v9 ⟨rfl, g9⟩
        have B9 := Lib.hid g9; clear g9
        go_wp2_with fail
        go_ret
        exact ⟨rfl, B9.out⟩
end Go.Proofs.YtfnlgfacadmjpaaGreatDoor.Bu
