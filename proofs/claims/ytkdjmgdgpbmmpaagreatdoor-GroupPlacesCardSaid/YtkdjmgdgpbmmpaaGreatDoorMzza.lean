/- The law's own texts of numbers; what a text without readings is read as.; What texts without readings are read as: with a place, and on land. -/
import Derived.Test.YtkdjmgdgpbmmpaaGreatDoorMzy
import Derived.Test.YtkdjmgdgpbmmpaaGreatDoorMzw
namespace Go.Proofs.YtkdjmgdgpbmmpaaGreatDoor
open Go.RowKit
open Ck (dig2 b10)

set_option maxHeartbeats 400000 in
theorem element2_any (n : Int) (w : World) (h1 : 0 ≤ n) (h2 : n ≤ 99) :
    Calls Tryz.prog 38 #[.int .i64 n] w fun e w' => e = .returned (.string (S (dig2 n))) ∧ Below w.heap.size w w' := by
  have kc := conv_two w (n / 10) (n % 10) (by omega) (by omega) (by omega) (by omega)
  go_enter Tryz.func38, Tryz.ntmps38
  go_wp2
  go_ret
  exact ⟨rfl, (Below.refl _ _).alloc (Nat.le_refl _) _⟩
theorem conv_one (X : World) (g : Nat) (c : Int) (h : Row X g 5 #[.int .u8 (48 + c)]) (h1 : 0 ≤ c) (h2 : c ≤ 9) :
    (convert 45 9 (.slice (some ⟨g, 0, none⟩) 1 1)).run Tryz.prog X = .ok (.string (S [b10 c])) X := by
  have h' := run_convert_bytes_arg (P := Tryz.prog) X 45 5 Tryz.underlying45 Tryz.underlying5 g 0 1 1 [48 + c] rfl
    (fun i hi => by
      obtain rfl : i = 0 := by omega
      exact (h.cell 0).trans rfl) 9 Tryz.underlying9
  rw [h']
  rw [show strOfNums [48 + c] = S [b10 c] by
    unfold strOfNums S b10
    simp only [List.map_cons, List.map_nil]
    rw [show (48 + c).toNat = 48 + c.toNat by omega]]
attribute [local go_sem] S_add S_size dig2_len Ck.S_one
set_option maxHeartbeats 2000000 in
theorem digits3_any (n : Int) (w : World) (h1 : 0 ≤ n) (h2 : n ≤ 999) :
    Calls Tryz.prog 39 #[.int .i64 n] w fun e w' => e = .returned (.string (S (Pl.dig3 n))) ∧ Below w.heap.size w w' := by
  have HT := Lib.hid (show Pl.dig3 n = [b10 (n / 100)] ++ dig2 (n % 100) by
    unfold Pl.dig3 dig2
    rw [show n / 10 % 10 = n % 100 / 10 by omega, show n % 10 = n % 100 % 10 by omega]
    rfl)
  have t1 : Int.tdiv n 100 = n / 100 := Int.tdiv_eq_ediv_of_nonneg h1
  have t2 : Int.tmod n 100 = n % 100 := Int.tmod_eq_emod_of_nonneg h1
  have a1 : 0 ≤ n / 100 := by omega
  have a2 : n / 100 ≤ 9 := by omega
  have a3 : 0 ≤ n % 100 := by omega
  have a4 : n % 100 ≤ 99 := by omega
  have x1 : IntKind.i64.wrap (n / 100) = n / 100 := IntWalk.i64_in _ (by omega)
  have x2 : IntKind.i64.wrap (48 + n / 100) = 48 + n / 100 := IntWalk.i64_in _ (by omega)
  have x3 : IntKind.u8.wrap (48 + n / 100) = 48 + n / 100 := IntWalk.u8_in _ (by omega)
  have l1 : ([b10 (n / 100)] : List UInt8).length = 1 := rfl
  have HB := Lib.hid ((Below.refl w.heap.size w).drew)
  generalize Pl.dig3 n = d3 at *
  go_enter Tryz.func39, Tryz.ntmps39
  go_upto_region 1 with fail
  refine wp_region_held_drew (S := fun _ : World => True) (by kernel_rfl) trivial (fun hHeld => ?_)
  generalize w.drew = X at *
  have hTT : True := trivial
  refine wpAnyH_take (i := 0) (oi := ⟨some 3, _, _, _, _, none⟩) (v := ?_) rfl (by kernel_rfl) (by kernel_rfl) (by kernel_rfl) (fun _ _ _ h => h) (Or.inl ⟨by rfl, ?_⟩) (by assumption) ?_
  case refine_2 => (intro wx hSx; (try dsimp only at hSx); go_simp; first | done | with_reducible rfl)
  try simp only [Act.put]
  refine wpAnyH_take (i := 1) (oi := ⟨some 4, _, _, _, _, none⟩) (v := ?_) rfl (by kernel_rfl) (by kernel_rfl) (by kernel_rfl) (fun _ _ _ h => h) (Or.inl ⟨by rfl, ?_⟩) (by assumption) ?_
  case refine_2 => (intro wx hSx; (try dsimp only at hSx); go_simp; first | done | with_reducible rfl)
  try simp only [Act.put]
  refine wpAnyH_take (i := 2) (oi := ⟨some 5, _, _, _, _, none⟩) (v := ?_) rfl (by kernel_rfl) (by kernel_rfl) (by kernel_rfl) (fun _ _ _ h => h) (Or.inl ⟨by rfl, ?_⟩) (by assumption) ?_
  case refine_2 => (intro wx hSx; (try dsimp only at hSx); go_simp; first | done | with_reducible rfl)
  try simp only [Act.put]
  refine wpAnyH_take (i := 3) (oi := ⟨some 6, _, _, _, _, none⟩) (v := ?_) rfl (by kernel_rfl) (by kernel_rfl) (by kernel_rfl) (fun _ _ _ h => h) (Or.inl ⟨by rfl, ?_⟩) (by assumption) ?_
  case refine_2 => (intro wx hSx; (try dsimp only at hSx); go_simp; first | done | with_reducible rfl)
  try simp only [Act.put]
  refine wpAnyH_take (i := 6) (oi := ⟨some 9, _, _, _, _, none⟩) (v := ?_) rfl (by kernel_rfl) (by kernel_rfl) (by kernel_rfl) (fun _ _ _ h => h) (Or.inl ⟨by rfl, ?_⟩) (by assumption) ?_
  case refine_2 => (intro wx hSx; (try dsimp only at hSx); go_simp; first | done | with_reducible rfl)
  try simp only [Act.put]
  refine wpAnyH_take (i := 7) (oi := ⟨some 10, _, _, _, _, none⟩) (v := ?_) rfl (by kernel_rfl) (by kernel_rfl) (by kernel_rfl) (fun _ _ _ h => h) (Or.inl ⟨by rfl, ?_⟩) (by assumption) ?_
  case refine_2 => (intro wx hSx; (try dsimp only at hSx); go_simp; first | done | with_reducible rfl)
  try simp only [Act.put]
  refine wpAnyH_ready (rs := [4, 8]) (by kernel_rfl) (by simp) ?_
  refine AllReadyH.cons (o := ⟨some 7, _, _, _, _, none⟩) rfl (fun K hK => ?_) (AllReadyH.cons (o := ⟨some 11, _, _, _, _, none⟩) rfl (fun K hK => ?_) AllReadyH.nil)
  · have J := Lib.hid (HB.out.alloc HB.out.size (.cells #[.int .u8 (48 + n / 100)] 5))
    have D := Lib.hid (Row.new X #[.int .u8 (48 + n / 100)] 5)
    go_simp
    refine hK.out _ _ trivial (fun _ => ?_)
    clear hK K
    try simp only [Act.put]
    refine El.genH (fun Y => Below w.heap.size w Y ∧ Row Y X.heap.size 5 #[.int .u8 (48 + n / 100)]) ⟨J.out, D.out⟩ ?_
    clear J D HB
    generalize X.heap.size = g at *
    rintro X ⟨HB, HD⟩
    have HB := Lib.hid HB
    have HD := Lib.hid HD
    refine wpAnyH_ready (rs := [5, 8]) (by kernel_rfl) (by simp) ?_
    refine AllReadyH.cons (o := ⟨some 8, _, _, _, _, none⟩) rfl (fun K hK => ?_) (AllReadyH.cons (o := ⟨some 11, _, _, _, _, none⟩) rfl (fun K hK => ?_) AllReadyH.nil)
    · have kc := conv_one X g (n / 100) HD.out (by omega) (by omega)
      go_simp
      refine hK.out _ _ trivial (fun _ => ?_)
      clear hK K
      try simp only [Act.put]
      clear kc
      refine wpAnyH_ready (rs := [8]) (by kernel_rfl) (by simp) ?_
      refine AllReadyH.cons (o := ⟨some 11, _, _, _, _, none⟩) rfl (fun K hK => ?_) AllReadyH.nil
      go_simp
      refine (element2_any (n % 100) X (by omega) (by omega)).mono ?_
      rintro e X1 ⟨rfl, g1⟩
      have J := Lib.hid (HB.out.trans (g1.mono HB.out.size))
      have D := Lib.hid (HD.out.under g1)
      clear HD
      clear g1 HB
      go_wp2_with fail
      refine hK.out _ _ trivial (fun _ => ?_)
      clear hK K
      try simp only [Act.put]
      refine El.genH (fun Y => Below w.heap.size w Y ∧ Row Y g 5 #[.int .u8 (48 + n / 100)]) ⟨J.out, D.out⟩ ?_
      clear J D
      rintro X ⟨HB, HD⟩
      have HB := Lib.hid HB
      have HD := Lib.hid HD
      refine wpAnyH_take (i := 9) (oi := ⟨some 12, _, _, _, _, none⟩) (v := ?_) rfl (by kernel_rfl) (by kernel_rfl) (by kernel_rfl) (fun _ _ _ h => h) (Or.inl ⟨by rfl, ?_⟩) (by assumption) ?_
      case refine_2 => (intro wx hSx; (try dsimp only at hSx); go_simp; first | done | with_reducible rfl)
      try simp only [Act.put]
      refine wpAnyH_take (i := 10) (oi := ⟨some 2, _, _, _, _, none⟩) (v := ?_) rfl (by kernel_rfl) (by kernel_rfl) (by kernel_rfl) (fun _ _ _ h => h) (Or.inl ⟨by rfl, ?_⟩) (by assumption) ?_
      case refine_2 => (intro wx hSx; (try dsimp only at hSx); go_simp; first | done | with_reducible rfl)
      try simp only [Act.put]
      refine wpAnyH_done (by kernel_rfl) ?_ _
      go_wp2_with fail
      go_ret
      exact ⟨ret_str (by rw [HT.out]; simp [S_add]), HB.out⟩
    · go_simp
      refine (element2_any (n % 100) X (by omega) (by omega)).mono ?_
      rintro e X1 ⟨rfl, g1⟩
      have J := Lib.hid (HB.out.trans (g1.mono HB.out.size))
      have D := Lib.hid (HD.out.under g1)
      clear HD
      clear g1 HB
      go_wp2_with fail
      refine hK.out _ _ trivial (fun _ => ?_)
      clear hK K
      try simp only [Act.put]
      refine El.genH (fun Y => Below w.heap.size w Y ∧ Row Y g 5 #[.int .u8 (48 + n / 100)]) ⟨J.out, D.out⟩ ?_
      clear J D
      rintro X ⟨HB, HD⟩
      have HB := Lib.hid HB
      have HD := Lib.hid HD
      refine wpAnyH_ready (rs := [5]) (by kernel_rfl) (by simp) ?_
      refine AllReadyH.cons (o := ⟨some 8, _, _, _, _, none⟩) rfl (fun K hK => ?_) AllReadyH.nil
      have kc := conv_one X g (n / 100) HD.out (by omega) (by omega)
      go_simp
      refine hK.out _ _ trivial (fun _ => ?_)
      clear hK K
      try simp only [Act.put]
      clear kc
      refine wpAnyH_take (i := 9) (oi := ⟨some 12, _, _, _, _, none⟩) (v := ?_) rfl (by kernel_rfl) (by kernel_rfl) (by kernel_rfl) (fun _ _ _ h => h) (Or.inl ⟨by rfl, ?_⟩) (by assumption) ?_
      case refine_2 => (intro wx hSx; (try dsimp only at hSx); go_simp; first | done | with_reducible rfl)
      try simp only [Act.put]
      refine wpAnyH_take (i := 10) (oi := ⟨some 2, _, _, _, _, none⟩) (v := ?_) rfl (by kernel_rfl) (by kernel_rfl) (by kernel_rfl) (fun _ _ _ h => h) (Or.inl ⟨by rfl, ?_⟩) (by assumption) ?_
      case refine_2 => (intro wx hSx; (try dsimp only at hSx); go_simp; first | done | with_reducible rfl)
      try simp only [Act.put]
      refine wpAnyH_done (by kernel_rfl) ?_ _
      go_wp2_with fail
      go_ret
      exact ⟨ret_str (by rw [HT.out]; simp [S_add]), HB.out⟩
  · go_simp
    refine (element2_any (n % 100) X (by omega) (by omega)).mono ?_
    rintro e X1 ⟨rfl, g1⟩
    have J := Lib.hid (HB.out.trans (g1.mono HB.out.size))
    clear g1 HB
    go_wp2_with fail
    refine hK.out _ _ trivial (fun _ => ?_)
    clear hK K
    try simp only [Act.put]
    refine El.genH (fun Y => Below w.heap.size w Y) J.out ?_
    clear J
    rintro X HB
    have HB := Lib.hid HB
    refine wpAnyH_ready (rs := [4]) (by kernel_rfl) (by simp) ?_
    refine AllReadyH.cons (o := ⟨some 7, _, _, _, _, none⟩) rfl (fun K hK => ?_) AllReadyH.nil
    have J := Lib.hid (HB.out.alloc HB.out.size (.cells #[.int .u8 (48 + n / 100)] 5))
    have D := Lib.hid (Row.new X #[.int .u8 (48 + n / 100)] 5)
    go_simp
    refine hK.out _ _ trivial (fun _ => ?_)
    clear hK K
    try simp only [Act.put]
    refine El.genH (fun Y => Below w.heap.size w Y ∧ Row Y X.heap.size 5 #[.int .u8 (48 + n / 100)]) ⟨J.out, D.out⟩ ?_
    clear J D HB
    generalize X.heap.size = g at *
    rintro X ⟨HB, HD⟩
    have HB := Lib.hid HB
    have HD := Lib.hid HD
    refine wpAnyH_ready (rs := [5]) (by kernel_rfl) (by simp) ?_
    refine AllReadyH.cons (o := ⟨some 8, _, _, _, _, none⟩) rfl (fun K hK => ?_) AllReadyH.nil
    have kc := conv_one X g (n / 100) HD.out (by omega) (by omega)
    go_simp
    refine hK.out _ _ trivial (fun _ => ?_)
    clear hK K
    try simp only [Act.put]
    clear kc
    refine wpAnyH_take (i := 9) (oi := ⟨some 12, _, _, _, _, none⟩) (v := ?_) rfl (by kernel_rfl) (by kernel_rfl) (by kernel_rfl) (fun _ _ _ h => h) (Or.inl ⟨by rfl, ?_⟩) (by assumption) ?_
    case refine_2 => (intro wx hSx; (try dsimp only at hSx); go_simp; first | done | with_reducible rfl)
    try simp only [Act.put]
    refine wpAnyH_take (i := 10) (oi := ⟨some 2, _, _, _, _, none⟩) (v := ?_) rfl (by kernel_rfl) (by kernel_rfl) (by kernel_rfl) (fun _ _ _ h => h) (Or.inl ⟨by rfl, ?_⟩) (by assumption) ?_
    case refine_2 => (intro wx hSx; (try dsimp only at hSx); go_simp; first | done | with_reducible rfl)
    try simp only [Act.put]
    refine wpAnyH_done (by kernel_rfl) ?_ _
    go_wp2_with fail
    go_ret
    exact ⟨ret_str (by rw [HT.out]; simp [S_add]), HB.out⟩
end Go.Proofs.YtkdjmgdgpbmmpaaGreatDoor
namespace Go.Proofs.YtkdjmgdgpbmmpaaGreatDoor
open Go.RowKit
open Ck (dig2)

theorem free_nm {nl : List UInt8} (h : nameOk (S nl) = true) : (32 : UInt8) ∉ nl ∧ nl.length = 5 := by
  unfold nameOk at h
  rw [Bool.and_eq_true, decide_eq_true_iff, S_list, S_size] at h
  exact ⟨fun hm => by have := List.all_eq_true.1 h.2 _ hm; revert this; decide, h.1⟩
theorem free_stp {t : Int} (h : 0 ≤ t ∧ t ≤ 52595999) : (32 : UInt8) ∉ stp t := by
  obtain ⟨td, th, tm⟩ := dt_bd h
  unfold stp
  exact free_digs (by rw [digs_app, digs_app, digs_dig2 (by omega) (by omega), digs_dig2 (by omega) (by omega), digs_dig2 (by omega) (by omega)]; rfl)
theorem digs_ptxt {f : Nat} {A B : Int} (hf : f < 20) (hA : 0 ≤ A ∧ A ≤ 840) (hB : 0 ≤ B ∧ B ≤ 840) : Pl.digs (Pl.txt f A B) = true := by
  unfold Pl.txt
  rw [digs_app, digs_app, (pdigs2 (n := (f : Int)) (by omega) (by omega)).1, (pdigs3 (n := A) (by omega) (by omega)).1, (pdigs3 (n := B) (by omega) (by omega)).1]; rfl
theorem pP_txt {f : Nat} {A B C : Int} (h : Pl.Ico.Vld f A B C) : pP (Pl.txt f A B) = ((f : Int), A, B, C, 0) := by
  obtain ⟨h1, h2, h3, h4, h5, h6, h7, h8⟩ := h
  have f1 : Pl.fld (S (Pl.txt f A B)) 0 2 = f := by rw [fld_S]; exact (pdigs2 (n := (f : Int)) (by omega) (by omega)).2
  have f2 : Pl.fld (S (Pl.txt f A B)) 2 5 = A := by rw [fld_S]; exact (pdigs3 (n := A) (by omega) (by omega)).2
  have f3 : Pl.fld (S (Pl.txt f A B)) 5 8 = B := by rw [fld_S]; exact (pdigs3 (n := B) (by omega) (by omega)).2
  unfold pP
  rw [f1, f2, f3, if_pos ⟨rfl, digs_ptxt (by omega) ⟨by omega, by omega⟩ ⟨by omega, by omega⟩, Pl.vb_of ⟨h1, h2, h3, h4, h5, by omega, by omega, by omega⟩⟩, show 840 - A - B = C by omega]
theorem eP_digs {x : List UInt8} (h : Pl.digs x = true) : (eP x).2.2 = 3 := by
  rcases eP_cases x with ⟨c, v, hv, rfl, -⟩ | ⟨-, e⟩
  · obtain ⟨hx, -⟩ := hv
    have hf := (El.Elt.facts hx).2.2.2.2.1
    unfold El.Elt.txt at h
    rw [Pl.digs_cons] at h
    omega
  · rw [e]
theorem stm_stp {t m : Int} (h : 0 ≤ t ∧ t ≤ 52595999) (hm : 0 ≤ m ∧ m ≤ 52595999) (hn : m - 20160 < t ∧ t < m + 20160) : Stm (stp t) m t := by
  obtain ⟨td, th, tm⟩ := dt_bd h
  exact ⟨dayOf t, hourOf t, minOf t, ⟨by omega, by omega⟩, ⟨by omega, by omega⟩, ⟨by omega, by omega⟩, rfl, rdb_near h hm hn.1 hn.2⟩
theorem vld_nil : El.Elt.vld [] = 0 := by
  rcases Decidable.em (El.Elt.vld [] = 0) with h | h
  · exact h
  · exfalso
    apply h
    have h4 : ¬ ∃ r ∈ ([] : List El.Elt.R), El.Elt.chk r.1 r.2 = 4 := fun ⟨r, hr, _⟩ => by cases hr
    have h1 : ¬ ∃ r ∈ ([] : List El.Elt.R), El.Elt.chk r.1 r.2 = 1 := fun ⟨r, hr, _⟩ => by cases hr
    by_cases ha : El.Elt.Asc []
    · exact (El.Elt.vld_sort h4 h1).1 ha
    · exact absurd (fun i hi => by simp at hi) ha
theorem nrm_txt (f : Nat) (A : Int) (hf : f < 20) (hA : 0 ≤ A ∧ A ≤ 840) : Pl.Ico.Vld f A (840 - A) 0 := ⟨by omega, by omega, by omega, by omega, by omega, by omega, by omega, by omega⟩
/-- The code of a report at sea whose place alone may be wrong. -/
theorem vcode_pl {k k0 t F0 A0 B0 C0 F A B C : Int} {nm : ByteArray} {L : List El.Elt.R} (hV : Vd k0 nm t F0 A0 B0 C0 L) (hk : k = 2 ∨ k = 3) : vcode k nm t F A B C L = if nrm F A B C = true then 0 else 1 := by
  have hp : plOk k F A B C = nrm F A B C := by unfold plOk; rw [if_neg (by omega)]
  by_cases h : nrm F A B C = true
  · rw [if_pos h, vcode_rest (by omega) hV.name ⟨hV.time.1, hV.time.2, hp.trans h⟩, hV.list]
  · rw [if_neg h, vcode_range (by omega) hV.name (fun e => h (hp ▸ e.2.2))]
theorem spl_four {a b c d : List UInt8} (ha : (32 : UInt8) ∉ a) (hb : (32 : UInt8) ∉ b) (hc : (32 : UInt8) ∉ c) (hd : (32 : UInt8) ∉ d) : spl (Lib.join [a, b, c, d] [32]) = [a, b, c, d] :=
  (Wrd.splitK_join [a, b, c, d] 14 (by simp) (by
    intro x hx
    simp only [List.mem_cons, List.not_mem_nil, or_false] at hx
    rcases hx with rfl | rfl | rfl | rfl <;> assumption)).1 (by simp)
theorem join_four (a b c d : List UInt8) : Lib.join [a, b, c, d] [32] = a ++ 32 :: (b ++ 32 :: (c ++ 32 :: d)) := by simp [Lib.join, List.intercalate]
/-- What a call of Parse answers but for the report. -/
def Psr (r : Int) (w : World) (e : Ending) (w' : World) : Prop := ∃ (k : Int) (nm : ByteArray) (t F A B C : Int) (S : Option Addr) (l c : Nat), e = .returned (.tuple #[repV k nm t F A B C (.slice S l c), .int .i64 r]) ∧ Below w.heap.size w w'
theorem par_sea {k k0 t F0 A0 B0 C0 m : Int} {nl : List UInt8} {L : List El.Elt.R} (hV : Vd k0 (S nl) t F0 A0 B0 C0 L) (hk : k = 2 ∨ k = 3) (hm : 0 ≤ m ∧ m ≤ 52595999) (hn : m - 20160 < t ∧ t < m + 20160) (f : Nat) (A : Int) (hf : f < 20) (hA : 0 ≤ A ∧ A ≤ 840) (w : World) (hE : Env w) :
    Calls Tryz.prog 34 #[.string (S (kw k ++ 32 :: (nl ++ 32 :: (stp t ++ 32 :: Pl.txt f A (840 - A))))), .int .i64 m] w (Psr (if nrm (f : Int) A (840 - A) 0 = true then 0 else 3) w) := by
  obtain ⟨n1, n2⟩ := free_nm hV.name
  have hd := digs_ptxt (f := f) (A := A) (B := 840 - A) hf hA ⟨by omega, by omega⟩
  have hsp := spl_four (free_kw k) n1 (free_stp hV.time) (free_digs hd)
  rw [← join_four]
  have hl : (Lib.join [kw k, nl, stp t, Pl.txt f A (840 - A)] [32]).length ≤ 100000 := by
    rw [join_four]
    have := kw_len k
    have h6 : (stp t).length = 6 := rfl
    have h8 := Pl.txt_length f A (840 - A)
    simp only [List.length_append, List.length_cons, List.length_nil]
    omega
  have hR : Rdd (spl (Lib.join [kw k, nl, stp t, Pl.txt f A (840 - A)] [32])) m k nl t (f : Int) A (840 - A) 0 [] := by
    rw [hsp]
    exact ⟨stp t, [Pl.txt f A (840 - A)], [], rfl, by omega, stm_stp hV.time hm hn, .inr ⟨by omega, _, rfl, pP_txt (nrm_txt f A hf hA)⟩, fun y hy => (by cases hy), rfl⟩
  have hV0 : Vd k0 (S nl) t F0 A0 B0 C0 [] := ⟨hV.kind, hV.name, hV.time, hV.place, vld_nil⟩
  have hc := vcode_pl (F := (f : Int)) (A := A) (B := 840 - A) (C := 0) hV0 hk
  refine (parse_any _ m w hE hm hl).mono fun e w' hp => ?_
  rcases hp with ⟨k', nm', t', F', A', B', C', L', u, ⟨hr, hv⟩, rfl, ⟨Su, cu, rfl, -⟩, hg⟩ | ⟨hno, rfl, hg⟩
  · obtain ⟨rfl, rfl, rfl, rfl, rfl, rfl, rfl, rfl⟩ := hR.one hr
    rw [hc] at hv
    by_cases h : nrm (f : Int) A (840 - A) 0 = true
    · rw [if_pos h]
      exact ⟨_, _, _, _, _, _, _, _, _, _, rfl, hg⟩
    · rw [if_neg h] at hv; cases hv
  · by_cases h : nrm (f : Int) A (840 - A) 0 = true
    · rw [if_pos h] at hc
      exact absurd ⟨hR, hc⟩ (hno _ _ _ _ _ _ _ _)
    · rw [if_neg h]
      exact ⟨_, _, _, _, _, _, _, _, _, _, rfl, hg⟩
theorem par_land {k0 t F0 A0 B0 C0 m : Int} {nl : List UInt8} {L : List El.Elt.R} (hV : Vd k0 (S nl) t F0 A0 B0 C0 L) (hm : 0 ≤ m ∧ m ≤ 52595999) (f : Nat) (A : Int) (hf : f < 20) (hA : 0 ≤ A ∧ A ≤ 840) (w : World) (hE : Env w) :
    Calls Tryz.prog 34 #[.string (S (76 :: 65 :: 78 :: 68 :: 32 :: (nl ++ 32 :: (stp t ++ 32 :: Pl.txt f A (840 - A))))), .int .i64 m] w (Psr 3 w) := by
  obtain ⟨n1, n2⟩ := free_nm hV.name
  have hd := digs_ptxt (f := f) (A := A) (B := 840 - A) hf hA ⟨by omega, by omega⟩
  have hsp := spl_four (free_kw 1) n1 (free_stp hV.time) (free_digs hd)
  rw [show (76 :: 65 :: 78 :: 68 :: 32 :: (nl ++ 32 :: (stp t ++ 32 :: Pl.txt f A (840 - A)))) = kw 1 ++ 32 :: (nl ++ 32 :: (stp t ++ 32 :: Pl.txt f A (840 - A))) from rfl, ← join_four]
  have hl : (Lib.join [kw 1, nl, stp t, Pl.txt f A (840 - A)] [32]).length ≤ 100000 := by
    rw [join_four]
    have := kw_len 1
    have h6 : (stp t).length = 6 := rfl
    have h8 := Pl.txt_length f A (840 - A)
    simp only [List.length_append, List.length_cons, List.length_nil]
    omega
  refine (parse_any _ m w hE hm hl).mono fun e w' hp => ?_
  rcases hp with ⟨k', nm', t', F', A', B', C', L', u, ⟨hr, -⟩, -, -, -⟩ | ⟨-, rfl, hg⟩
  · exfalso
    rw [hsp] at hr
    obtain ⟨st, rest, rs, e, hk', -, hp, ho, -⟩ := hr
    injection e with e1 e2
    injection e2 with e2 e3
    injection e3 with e3 e4
    obtain rfl := kw_inj (by omega) hk' e1
    rcases hp with ⟨-, -, -, -, -, rfl⟩ | ⟨h, -⟩
    · have := ho (Pl.txt f A (840 - A)) (by rw [← e4]; simp)
      rw [eP_digs hd] at this
      cases this
    · exact h rfl
  · exact ⟨_, _, _, _, _, _, _, _, _, _, rfl, hg⟩
end Go.Proofs.YtkdjmgdgpbmmpaaGreatDoor
