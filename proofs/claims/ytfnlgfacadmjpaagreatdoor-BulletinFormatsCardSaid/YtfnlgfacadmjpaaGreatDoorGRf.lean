/- Contracts of the reference's digits and Format; both texts are the same. The reference's contract of Format of a valid report. -/
import Derived.Test.YtfnlgfacadmjpaaGreatDoorPBothParse
import Derived.Laws.BytesArg
import Derived.Test.YtfnlgfacadmjpaaGreatDoorGRw
import Derived.Test.YtfnlgfacadmjpaaGreatDoorGRy
import Derived.Test.YtfnlgfacadmjpaaGreatDoorGForm
import Derived.Test.YtfnlgfacadmjpaaGreatDoorERFmt
namespace Go.Proofs.YtfnlgfacadmjpaaGreatDoor.Pl
open Go.RowKit

/-- The last k digits of a number. -/
def dd (n : Int) : Nat → List UInt8
  | 0 => []
  | k + 1 => b10 (n / 10 ^ k % 10) :: dd n k
theorem dd_len (n : Int) : ∀ k, (dd n k).length = k
  | 0 => rfl
  | k + 1 => by rw [dd, List.length_cons, dd_len n k]
/-- What is left of a number, and its digits so far. -/
def DD (n : Int) (k : Nat) (q : Int) (l : List UInt8) : Prop := q = n / 10 ^ k ∧ l = dd n k
theorem DD.start (n : Int) : DD n 0 n [] := ⟨by simp, rfl⟩
theorem DD.step {n : Int} {k : Nat} {q : Int} {l : List UInt8} (h : DD n k q l) : DD n (k + 1) (q / 10) (b10 (q % 10) :: l) := by
  obtain ⟨rfl, rfl⟩ := h
  exact ⟨by rw [Int.pow_succ]; exact Int.ediv_ediv_of_nonneg (Int.pow_nonneg (by omega)), rfl⟩
theorem DD.two {n : Int} {q : Int} {l : List UInt8} (h : DD n 2 q l) (h1 : 0 ≤ n) (h2 : n ≤ 99) : l = dig2 n := by
  obtain ⟨-, rfl⟩ := h
  show [b10 (n / 10 ^ 1 % 10), b10 (n / 10 ^ 0 % 10)] = dig2 n
  unfold dig2
  rw [show n / 10 ^ 1 % 10 = n / 10 by omega, show n / 10 ^ 0 % 10 = n % 10 by omega]
theorem DD.three {n : Int} {q : Int} {l : List UInt8} (h : DD n 3 q l) (h1 : 0 ≤ n) (h2 : n ≤ 999) : l = dig3 n := by
  obtain ⟨-, rfl⟩ := h
  show [b10 (n / 10 ^ 2 % 10), b10 (n / 10 ^ 1 % 10), b10 (n / 10 ^ 0 % 10)] = dig3 n
  unfold dig3
  rw [show n / 10 ^ 2 % 10 = n / 100 by omega, show n / 10 ^ 1 % 10 = n / 10 % 10 by omega, show n / 10 ^ 0 % 10 = n % 10 by omega]
/-- A byte made a text. -/
theorem conv_one (w : World) (c : Int) (h1 : 0 ≤ c) (h2 : c ≤ 9) :
    (convert 40 9 (.slice (some ⟨w.heap.size, 0, none⟩) 1 1)).run Tryz.prog (w.alloc (.cells #[.int .u8 (48 + c)] 5)) = .ok (.string (S [b10 c])) (w.alloc (.cells #[.int .u8 (48 + c)] 5)) := by
  have h := run_convert_bytes_arg (P := Tryz.prog) (w.alloc (.cells #[.int .u8 (48 + c)] 5)) 40 5 Tryz.underlying40 Tryz.underlying5 w.heap.size 0 1 1 [48 + c] rfl
    (fun i hi => by
      obtain rfl : i = 0 := by omega
      have := heap_alloc_new w (.cells #[.int .u8 (48 + c)] 5)
      unfold World.cell?; rw [this]; rfl) 9 Tryz.underlying9
  rw [h]
  rw [show strOfNums [48 + c] = S [b10 c] by
    unfold strOfNums S b10
    simp only [List.map_cons, List.map_nil]
    rw [show (48 + c).toNat = 48 + c.toNat by omega]]
theorem DD.len {n : Int} {k : Nat} {q : Int} {l : List UInt8} (h : DD n k q l) : l.length ≤ k := by rw [h.2, dd_len]; exact Nat.le_refl _
theorem S_one (x : UInt8) : (⟨#[x]⟩ : ByteArray) = S [x] := rfl
attribute [local go_sem] S_add S_size S_one
set_option maxHeartbeats 400000 in
theorem refDigits_w (n : Int) (width : Nat) (w : World) (h1 : 0 ≤ n) (h2 : n ≤ 9999) (h3 : width ≤ 4) :
    Calls Tryz.prog 115 #[.int .i64 n, .int .i64 width] w fun e w' => (∃ q l, e = .returned (.string (S l)) ∧ DD n width q l) ∧ Below w.heap.size w w' := by
  go_enter Tryz.func115, Tryz.ntmps115
  go_wp2
  go_loopw [0, 5, 6] (fun a s i wr => ∃ (k : Nat) (q : Int) (l : List UInt8), k ≤ width ∧ a = .int .i64 q ∧ s = .string (S l) ∧ i = .int .i64 k ∧ 0 ≤ q ∧ q ≤ 9999 ∧ DD n k q l ∧ Below w.heap.size w wr) (fun _ _ i _ => width - (intOf i).toNat)
  case atStart => exact ⟨0, n, [], Nat.zero_le _, rfl, rfl, rfl, h1, h2, DD.start n, Below.refl _ _⟩
  case round =>
    obtain ⟨k, q, l, hk, rfl, rfl, rfl, q1, q2, hd, hb⟩ := hrel
    by_cases hlt : k < width
    · have kc := conv_one wr (q % 10) (by omega) (by omega)
      have hll := hd.len
      go_wp2
      go_roundw
      case rel => exact ⟨k + 1, q / 10, b10 (q % 10) :: l, by omega, rfl, rfl, by go_num, by omega, by omega, hd.step, hb.alloc hb.size _⟩
      case measure => simp [intOf]; omega
    · obtain rfl : k = width := by omega
      go_wp2
      go_ret
      exact ⟨⟨q, l, rfl, hd⟩, hb⟩
theorem refDigits (n k : Int) (w0 w : World) (hb : Below w0.heap.size w0 w) (h1 : 0 ≤ n) (h2 : (k = 2 ∧ n ≤ 99) ∨ (k = 3 ∧ n ≤ 999)) :
    Calls Tryz.prog 115 #[.int .i64 n, .int .i64 k] w fun e w' => e = .returned (.string (S (dg k n))) ∧ Below w0.heap.size w0 w' := by
  rcases h2 with ⟨rfl, h⟩ | ⟨rfl, h⟩
  · exact (refDigits_w n 2 w h1 (by omega) (by omega)).mono fun e w' ⟨⟨q, l, he, hd⟩, hb2⟩ => ⟨by rw [he, hd.two h1 h]; rfl, hb.trans (hb2.mono hb.size)⟩
  · exact (refDigits_w n 3 w h1 (by omega) (by omega)).mono fun e w' ⟨⟨q, l, he, hd⟩, hb2⟩ => ⟨by rw [he, hd.three h1 h]; rfl, hb.trans (hb2.mono hb.size)⟩
set_option maxHeartbeats 400000 in
theorem refFormat_no (F a b c : Int) (w : World) (hv : vb F a b c = false) :
    Calls Tryz.prog 72 #[.agg #[.int .i64 F, .int .i64 a, .int .i64 b, .int .i64 c]] w fun e w' => e = .returned (.tuple #[.string ⟨#[]⟩, .int .i64 1]) ∧ Below w.heap.size w w' := by
  go_enter Tryz.func72, Tryz.ntmps72
  go_wp2_with fail
  refine (refValid_is _ _ _ _ _ _ hv).mono ?_
  rintro e w1 ⟨rfl, g1⟩
  go_wp2_with fail
  go_ret2
  exact ⟨rfl, ((Below.refl _ _).alloc (Nat.le_refl _) _).trans (g1.mono (by simp))⟩
attribute [local go_sem] dg_two dg_three dig2_length dig3_length
set_option maxHeartbeats 1000000 in
theorem refFormat_yes (f : Nat) (a b c : Int) (w : World) (hv : Ico.Vld f a b c) :
    Calls Tryz.prog 72 #[.agg #[.int .i64 f, .int .i64 a, .int .i64 b, .int .i64 c]] w fun e w' => e = .returned (.tuple #[.string (S (txt f a b)), .int .i64 0]) ∧ Below w.heap.size w w' := by
  have v1 := vb_of hv
  obtain ⟨u1, u2, u3, u4, u5, -⟩ := hv
  go_enter Tryz.func72, Tryz.ntmps72
  go_wp2_with fail
  have r0 := Row.new w #[.int .i64 f, .int .i64 a, .int .i64 b, .int .i64 c] 50
  refine (refValid_is _ _ _ _ _ _ v1).mono ?_
  rintro e w1 ⟨rfl, g1⟩
  go_upto_region 3 with fail
  refine forget (fun Y => Below w.heap.size w Y ∧ Row Y w.heap.size 50 #[.int .i64 f, .int .i64 a, .int .i64 b, .int .i64 c]) ⟨((Below.refl _ _).alloc (Nat.le_refl _) _).trans (g1.mono (by simp)), r0.under g1⟩ ?_
  clear g1 r0
  rintro Y ⟨bY, BY⟩
  obtain ⟨k0, k1, k2, k3⟩ := row4 BY
  have R := Lib.hid BY; clear BY
  have hb2 := Below.refl Y.drew.heap.size Y.drew
  go_region_held3 (fun w' => w'.cell? ⟨w.heap.size, 0, none⟩ = some (.int .i64 f) ∧ w'.cell? ⟨w.heap.size, 1, none⟩ = some (.int .i64 a) ∧ w'.cell? ⟨w.heap.size, 2, none⟩ = some (.int .i64 b) ∧ w'.cell? ⟨w.heap.size, 3, none⟩ = some (.int .i64 c))
    (first | go_keep | exact row4 (Row.under (w := Y.drew) R.out hb2))
    (first | (go_at_call 115; refine (refDigits _ _ Y.drew _ hb2 (by omega) (by omega)).mono ?_; clear hb2; rintro e w2 ⟨rfl, hb2⟩))
  go_wp2
  go_ret2
  exact ⟨ret_str2 (by simp [txt]), bY.trans ((undrew hb2).mono bY.size)⟩
/-- Whatever the place: both functions answer the same text. -/
theorem both_format (F a b c : Int) : ∃ (t : ByteArray) (r : Int),
    (∀ w, Env w → Calls Tryz.prog 67 #[.agg #[.int .i64 F, .int .i64 a, .int .i64 b, .int .i64 c]] w fun e w' => e = .returned (.tuple #[.string t, .int .i64 r]) ∧ Below w.heap.size w w') ∧
    (∀ w, Calls Tryz.prog 72 #[.agg #[.int .i64 F, .int .i64 a, .int .i64 b, .int .i64 c]] w fun e w' => e = .returned (.tuple #[.string t, .int .i64 r]) ∧ Below w.heap.size w w') := by
  cases hv : vb F a b c
  · exact ⟨_, _, fun w _ => format_no F a b c w hv, fun w => refFormat_no F a b c w hv⟩
  · obtain ⟨f, rfl, h⟩ := vb_to hv
    exact ⟨_, _, fun w hE => format_yes f a b c w hE h, fun w => refFormat_yes f a b c w h⟩
end Go.Proofs.YtfnlgfacadmjpaaGreatDoor.Pl
namespace Go.Proofs.YtfnlgfacadmjpaaGreatDoor
open Go.RowKit

theorem refWord_from (k : Int) (w0 w : World) (hk : 1 ≤ k ∧ k ≤ 3) (hb : Below w0.heap.size w0 w) :
    Calls Tryz.prog 71 #[.int .i64 k] w fun e w' => e = .returned (.string (S (kw k))) ∧ Below w0.heap.size w0 w' :=
  (refWord_any k w hk).mono fun _ _ ⟨he, hg⟩ => ⟨he, hb.trans (hg.mono hb.size)⟩
theorem refGroup_from (t : Int) (w0 w : World) (ht : 0 ≤ t ∧ t ≤ 52595999) (hb : Below w0.heap.size w0 w) :
    Calls Tryz.prog 69 #[.int .i64 t] w fun e w' => e = .returned (.string (S (stp t))) ∧ Below w0.heap.size w0 w' :=
  (refGroup_any t w ht).mono fun _ _ ⟨he, hg⟩ => ⟨he, hb.trans (hg.mono hb.size)⟩
theorem cellsK {Y X : World} {g : Nat} {ty : TypeId} {x0 x1 x2 x3 x4 x5 x6 x7 : Value} (r : Row Y g ty #[x0, x1, x2, x3, x4, x5, x6, x7]) (hb : Below Y.drew.heap.size Y.drew X) :
    X.cell? ⟨g, 0, none⟩ = some x0 ∧ X.cell? ⟨g, 1, none⟩ = some x1 ∧ X.cell? ⟨g, 2, none⟩ = some x2 := by
  obtain ⟨c0, c1, c2, -⟩ := row8 (r.drew.under hb)
  exact ⟨c0, c1, c2⟩
attribute [local go_sem] S_add S_size Ck.S_one
set_option maxRecDepth 100000 in
set_option maxHeartbeats 4000000 in
theorem refFormat_rep (k : Int) (nm : ByteArray) (t F A B C : Int) (u : Value) (L : List El.Elt.R) (w : World) (hL : El.RdIn w u L) (hs : nm.size ≤ 9223372036854775806) (hV : Vd k nm t F A B C L) :
    Calls Tryz.prog 40 #[repV k nm t F A B C u] w fun e w' => e = .returned (.tuple #[.string (S (gtx k nm t F A B L)), .int .i64 0]) ∧ Below w.heap.size w w' := by
  obtain ⟨nl, rfl⟩ : ∃ nl, nm = S nl := ⟨nm.data.toList, (S_of nm).symm⟩
  obtain ⟨Au, cu, rfl, hc1, hc2, hR⟩ := id hL
  have HR := Lib.hid hR
  have b1 := (Below.refl w.heap.size w).alloc (Nat.le_refl _) (.cells (repC k (S nl) t F A B C (.slice Au L.length cu)) 53)
  have r1 := Row.new w (repC k (S nl) t F A B C (.slice Au L.length cu)) 53
  have HV := Lib.hid (fun W (h : El.RdIn W (.slice Au L.length cu) L) => refVal_any k (S nl) t F A B C (.slice Au L.length cu) L W h hs)
  rw [hV.code] at HV
  have HVL := Lib.hid (vld_zero hV.list).1
  have HT := Lib.hid hV.time
  have HK := Lib.hid hV.kind
  have hll := vld_len hV.list
  have HP := Lib.hid hV.place
  have HG := Lib.hid (show gtx k (S nl) t F A B L = Lib.join (([kw k, nl, stp t] ++ (if k = 1 then [] else [Pl.txt F.toNat A B])) ++ L.map fun r => El.Elt.txt r.1 r.2) [32] by unfold gtx wds; rw [S_list])
  have hn5 : nl.length = 5 := by
    have h := hV.name
    unfold nameOk at h
    simp only [Bool.and_eq_true, decide_eq_true_eq] at h
    rw [← S_size]; exact h.1
  have hk4 : (kw k).length = 4 := by rcases (by have := HK.out; omega : k = 1 ∨ k = 2 ∨ k = 3) with rfl | rfl | rfl <;> rfl
  have ht6 : (stp t).length = 6 := rfl
  have hbd := Lib.hid (wds_short hV)
  have HWD := Lib.hid (show wds k (S nl) t F A B L = ([kw k, nl, stp t] ++ (if k = 1 then [] else [Pl.txt F.toNat A B])) ++ L.map fun r => El.Elt.txt r.1 r.2 by unfold wds; rw [S_list])
  rw [HWD.out] at hbd
  clear HWD
  clear hR hV hs
  generalize gtx k (S nl) t F A B L = gt at *
  go_enter Tryz.func40, Tryz.ntmps40
  go_upto_region 1 with fail
  generalize w.alloc (.cells (repC k (S nl) t F A B C (.slice Au L.length cu)) 53) = W1 at *
  obtain ⟨c0, c1, c2, c3, c4, c5, c6, c7⟩ := row8 r1
  go_wp2_with fail
  refine (HV.out _ (hL.under b1)).mono ?_
  rintro e w2 ⟨rfl, g2⟩
  have B2 := Lib.hid (b1.trans (g2.mono b1.size))
  have R2 := Lib.hid (r1.under g2)
  clear c0 c1 c2 c3 c4 c5 c6 c7 b1 r1 g2 HV hL
  go_upto_region 4 with fail
  have hlt := R2.out.lt
  have hb2 := Below.refl w2.drew.heap.size w2.drew
  obtain ⟨c0, c1, c2⟩ := cellsK R2.out hb2
  generalize hst : stp t = st at *
  have HST := Lib.hid hst
  generalize hkk : kw k = kk at *
  have HKK := Lib.hid hkk
  clear hst hkk
  go_region_held3 (fun w' => w'.cell? ⟨w.heap.size, 0, none⟩ = some (.int .i64 k) ∧ w'.cell? ⟨w.heap.size, 1, none⟩ = some (.string (S nl)) ∧ w'.cell? ⟨w.heap.size, 2, none⟩ = some (.int .i64 t))
    (first | go_keep | exact cellsK R2.out hb2)
    (first | (go_at_call 71; refine (refWord_from _ w2.drew _ HK.out hb2).mono ?_; clear hb2; rintro e w3 ⟨rfl, hb2⟩; rw [HKK.out]) | (go_at_call 69; refine (refGroup_from _ w2.drew _ HT.out hb2).mono ?_; clear hb2; rintro e w3 ⟨rfl, hb2⟩; rw [HST.out]))

  have BQ := Lib.hid (B2.out.trans ((undrew hb2).mono B2.out.size))
  have RQ := Lib.hid (R2.out.under (undrew hb2))
  clear hb2 c0 c1 c2 R2 B2
  obtain ⟨c0, c1, c2, c3, c4, c5, c6, c7⟩ := row8 RQ.out
  by_cases k1 : k = 1
  · subst k1
    go_wp2_with fail
    clear c0 c1 c2 c3 c4 c5 c6 c7
    simp only [if_true, List.append_nil] at HG hbd
    have HL4 := Lib.hid (show [kk, nl, st].length ≤ 4 by simp)
    generalize hH : [kk, nl, st] = hd at *
    have HH := Lib.hid hH
    have hpos : hd ≠ [] := by rw [← hH]; simp
    clear hH
    have hlh : hd.length ≤ 4 := HL4.out
    go_loopw [5, 8, 9, 10] (fun v i _ _ wr => ∃ j : Nat, j ≤ L.length ∧ i = .int .i64 j ∧ v = .string (S (Lib.join (hd ++ (L.take j).map fun r => El.Elt.txt r.1 r.2) [32])) ∧ Below w.heap.size w wr ∧ Row wr w.heap.size 53 (repC 1 (S nl) t F A B C (.slice Au L.length cu))) (fun _ i _ _ _ => L.length - (intOf i).toNat)
    case atStart => exact ⟨0, Nat.zero_le _, rfl, by rw [List.take_zero, List.map_nil, List.append_nil, ← HH.out]; simp [Lib.join, List.intercalate], BQ.out, RQ.out⟩
    case round =>
      obtain ⟨j, hj, rfl, rfl, hB, hRw⟩ := hrel
      have HB := Lib.hid hB
      have HRw := Lib.hid hRw
      obtain ⟨-, -, -, -, -, -, -, c7⟩ := row8 hRw
      clear hB hRw
      by_cases hlt : j < L.length
      · obtain ⟨g, off, rfl, hg, a0, a1⟩ := HR.out j hlt
        have a0 := (HB.out.cell (p := ⟨g, off + j * 2, none⟩) hg).trans a0
        have a1 := (HB.out.cell (p := ⟨g, off + j * 2 + 1, none⟩) hg).trans a1
        have j0 : (0 : Int) ≤ (j : Int) := by omega
        have j1 : (j : Int) < (L.length : Int) := by omega
        have hv := Lib.hid (HVL.out _ (List.getElem_mem hlt))
        have hJ : (Lib.join (hd ++ (L.take j).map fun r => El.Elt.txt r.1 r.2) [32]).length ≤ 2020 := by
          refine Nat.le_trans (join_len _ 20 100 (by rw [List.length_append, List.length_map, List.length_take]; omega) (fun x hx => hbd.out x ?_)) (Nat.le_refl _)
          rcases List.mem_append.1 hx with h | h
          · exact List.mem_append.2 (.inl h)
          · obtain ⟨r, hr, e⟩ := List.mem_map.1 h
            exact List.mem_append.2 (.inr (List.mem_map.2 ⟨r, List.mem_of_mem_take hr, e⟩))
        have hT : (El.Elt.txt (L[j]).1 (L[j]).2).length ≤ 100 := hbd.out _ (List.mem_append.2 (.inr (List.mem_map.2 ⟨_, List.getElem_mem hlt, rfl⟩)))
        have hn := Lib.hid (show Lib.join (hd ++ (L.take (j + 1)).map fun r => El.Elt.txt r.1 r.2) [32] = Lib.join (hd ++ (L.take j).map fun r => El.Elt.txt r.1 r.2) [32] ++ ([32] ++ El.Elt.txt (L[j]).1 (L[j]).2) by
          rw [List.take_succ_eq_append_getElem hlt, List.map_append, ← List.append_assoc]
          exact join_more _ _ (by intro h; exact hpos (List.append_eq_nil_iff.1 h).1))
        generalize L[j] = x at *
        obtain ⟨x0, x2⟩ := x
        simp only at a0 a1 hv hn hT
        generalize Lib.join (hd ++ (L.take j).map fun r => El.Elt.txt r.1 r.2) [32] = J at *
        have HF := Lib.hid (fun W => El.refFormat_yes x0 x2 W hv.out)
        generalize El.Elt.txt x0 x2 = tx at *
        clear hbd
        go_wp2_with fail
        refine (HF.out _).mono ?_
        rintro e w6 ⟨rfl, g6⟩
        have B6 := Lib.hid (HB.out.trans (g6.mono HB.out.size))
        have R6 := Lib.hid (HRw.out.under g6)
        clear g6 HB HRw a0 a1 c7
        go_wp2_with fail
        go_roundw
        case rel => exact ⟨j + 1, by omega, by go_num, by rw [hn.out]; simp, B6.out, R6.out⟩
        case measure => simp [intOf]; omega
      · have hke : j = L.length := by omega
        have k1 : ¬ ((j : Int) < (L.length : Int)) := by omega
        subst hke
        have hgt := Lib.hid (show Lib.join (hd ++ (L.take L.length).map fun r => El.Elt.txt r.1 r.2) [32] = gt by rw [HG.out, List.take_length])
        rw [hgt.out]
        clear hgt hbd
        go_wp2_with fail
        go_ret2
        exact ⟨rfl, HB.out⟩
  · have hp := HP.out
    unfold plOk at hp
    rw [if_neg k1] at hp
    unfold nrm at hp
    obtain ⟨f, rfl, hf⟩ := Pl.vb_to (Bool.and_eq_true_iff.1 hp).1
    have HPF := Lib.hid (fun W => Pl.refFormat_yes f A B C W hf)
    rw [if_neg k1] at HG hbd
    have q : (k != 1) = true := by rw [bne_iff_ne]; exact k1
    have htp : (Pl.txt ((f : Int)).toNat A B).length = 8 := Pl.txt_length _ _ _
    have hff : ((f : Int)).toNat = f := rfl
    rw [hff] at HG hbd htp
    have HL4 := Lib.hid (show ([kk, nl, st] ++ [Pl.txt f A B]).length ≤ 4 by simp)
    generalize hH : [kk, nl, st] ++ [Pl.txt f A B] = hd at *
    have HH := Lib.hid hH
    have hpos : hd ≠ [] := by rw [← hH]; simp
    clear hH hp hf hff
    generalize Pl.txt f A B = tp at *
    go_wp2_with fail
    refine (HPF.out _).mono ?_
    rintro e w5 ⟨rfl, g5⟩
    have BQ := Lib.hid (BQ.out.trans (g5.mono BQ.out.size))
    have RQ := Lib.hid (RQ.out.under g5)
    clear g5 c0 c1 c2 c3 c4 c5 c6 c7 HPF
    go_wp2_with fail
    have hlh : hd.length ≤ 4 := HL4.out
    go_loopw [5, 8, 9, 10] (fun v i _ _ wr => ∃ j : Nat, j ≤ L.length ∧ i = .int .i64 j ∧ v = .string (S (Lib.join (hd ++ (L.take j).map fun r => El.Elt.txt r.1 r.2) [32])) ∧ Below w.heap.size w wr ∧ Row wr w.heap.size 53 (repC k (S nl) t (f : Int) A B C (.slice Au L.length cu))) (fun _ i _ _ _ => L.length - (intOf i).toNat)
    case atStart => exact ⟨0, Nat.zero_le _, rfl, by rw [List.take_zero, List.map_nil, List.append_nil, ← HH.out]; simp [Lib.join, List.intercalate], BQ.out, RQ.out⟩
    case round =>
      obtain ⟨j, hj, rfl, rfl, hB, hRw⟩ := hrel
      have HB := Lib.hid hB
      have HRw := Lib.hid hRw
      obtain ⟨-, -, -, -, -, -, -, c7⟩ := row8 hRw
      clear hB hRw
      by_cases hlt : j < L.length
      · obtain ⟨g, off, rfl, hg, a0, a1⟩ := HR.out j hlt
        have a0 := (HB.out.cell (p := ⟨g, off + j * 2, none⟩) hg).trans a0
        have a1 := (HB.out.cell (p := ⟨g, off + j * 2 + 1, none⟩) hg).trans a1
        have j0 : (0 : Int) ≤ (j : Int) := by omega
        have j1 : (j : Int) < (L.length : Int) := by omega
        have hv := Lib.hid (HVL.out _ (List.getElem_mem hlt))
        have hJ : (Lib.join (hd ++ (L.take j).map fun r => El.Elt.txt r.1 r.2) [32]).length ≤ 2020 := by
          refine Nat.le_trans (join_len _ 20 100 (by rw [List.length_append, List.length_map, List.length_take]; omega) (fun x hx => hbd.out x ?_)) (Nat.le_refl _)
          rcases List.mem_append.1 hx with h | h
          · exact List.mem_append.2 (.inl h)
          · obtain ⟨r, hr, e⟩ := List.mem_map.1 h
            exact List.mem_append.2 (.inr (List.mem_map.2 ⟨r, List.mem_of_mem_take hr, e⟩))
        have hT : (El.Elt.txt (L[j]).1 (L[j]).2).length ≤ 100 := hbd.out _ (List.mem_append.2 (.inr (List.mem_map.2 ⟨_, List.getElem_mem hlt, rfl⟩)))
        have hn := Lib.hid (show Lib.join (hd ++ (L.take (j + 1)).map fun r => El.Elt.txt r.1 r.2) [32] = Lib.join (hd ++ (L.take j).map fun r => El.Elt.txt r.1 r.2) [32] ++ ([32] ++ El.Elt.txt (L[j]).1 (L[j]).2) by
          rw [List.take_succ_eq_append_getElem hlt, List.map_append, ← List.append_assoc]
          exact join_more _ _ (by intro h; exact hpos (List.append_eq_nil_iff.1 h).1))
        generalize L[j] = x at *
        obtain ⟨x0, x2⟩ := x
        simp only at a0 a1 hv hn hT
        generalize Lib.join (hd ++ (L.take j).map fun r => El.Elt.txt r.1 r.2) [32] = J at *
        have HF := Lib.hid (fun W => El.refFormat_yes x0 x2 W hv.out)
        generalize El.Elt.txt x0 x2 = tx at *
        clear hbd
        go_wp2_with fail
        refine (HF.out _).mono ?_
        rintro e w6 ⟨rfl, g6⟩
        have B6 := Lib.hid (HB.out.trans (g6.mono HB.out.size))
        have R6 := Lib.hid (HRw.out.under g6)
        clear g6 HB HRw a0 a1 c7
        go_wp2_with fail
        go_roundw
        case rel => exact ⟨j + 1, by omega, by go_num, by rw [hn.out]; simp, B6.out, R6.out⟩
        case measure => simp [intOf]; omega
      · have hke : j = L.length := by omega
        have k1 : ¬ ((j : Int) < (L.length : Int)) := by omega
        subst hke
        have hgt := Lib.hid (show Lib.join (hd ++ (L.take L.length).map fun r => El.Elt.txt r.1 r.2) [32] = gt by rw [HG.out, List.take_length])
        rw [hgt.out]
        clear hgt hbd
        go_wp2_with fail
        go_ret2
        exact ⟨rfl, HB.out⟩
end Go.Proofs.YtfnlgfacadmjpaaGreatDoor
