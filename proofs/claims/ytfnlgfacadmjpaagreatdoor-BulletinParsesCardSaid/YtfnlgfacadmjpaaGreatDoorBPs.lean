/- The program's Parse of bulletins, at any text that has a first line. -/
import Derived.Test.YtfnlgfacadmjpaaGreatDoorBFt
import Derived.Test.YtfnlgfacadmjpaaGreatDoorBLj
namespace Go.Proofs.YtfnlgfacadmjpaaGreatDoor.Bu
open Go.RowKit
attribute [local go_sem] Oper.semAt_some

/-- What Parse leaves. -/
def BuO2 (hd body : List UInt8) (near : Int) (w : World) (e : Ending) (w' : World) : Prop :=
  ((lns body).length ≤ 60 ∧ ∃ (c : List UInt8) (t cor del : Int) (R : List Rp) (vr vd : Value), Hdr (hws hd) near c t cor del ∧ R.map Rp.key = goods t (nums 1 (lns body)) ∧ e = .returned (.tuple #[bulV (S c) t cor del vr, vd, .int .i64 0]) ∧
    w'.ownsRow w.heap.size 53 8 vr R.length (rpc R) ∧ w'.ownsRow w.heap.size 3 1 vd (bads t (nums 1 (lns body))).length ((bads t (nums 1 (lns body))).map (Value.int .i64)) ∧ (∀ r ∈ R, El.RdIn w' r.u r.L ∧ (r.L ≠ [] → ∀ i, r.u.ownBlock = some i → w.heap.size ≤ i)) ∧ Below w.heap.size w w') ∨
  ((∀ c t cor del, ¬ Hdr (hws hd) near c t cor del) ∧ e = .returned (.tuple #[zBul, .slice none 0 0, .int .i64 3]) ∧ Below w.heap.size w w') ∨
  (60 < (lns body).length ∧ (∃ c t cor del, Hdr (hws hd) near c t cor del) ∧ e = .returned (.tuple #[zBul, .slice none 0 0, .int .i64 2]) ∧ Below w.heap.size w w')
/-- The results where there are too many lines. -/
def Rz (w W : World) : Prop := Below w.heap.size w W ∧ Row W w.heap.size 24 #[.string ⟨#[]⟩, .int .i64 0, .int .i64 0, .int .i64 0, .slice none 0 0] ∧ Row W (w.heap.size + 1) 25 #[.slice none 0 0] ∧ Row W (w.heap.size + 1 + 1) 33 #[.int .i64 2]
theorem Rz.own {w : World} {B : Nat} (hB : w.heap.size + 1 + 1 < B) (cd : Code) : OwnFrom B (fun (pre : List Ln2) W => cd = .ret ∧ (∃ x ∈ pre, 60 < x.1.1) ∧ Rz w W) := fun s W W' row ⟨h1, h2, h3, h4, h5, h6⟩ hg hr =>
  have hne : ∀ g, g < B → some g ≠ row := fun g hlt e => by have := (hr g e.symm).1; omega
  ⟨h1, h2, h3.grown hg h3.size (fun r e => by have := (hr r e).1; omega), h4.grown hg (hne _ (by omega)), h5.grown hg (hne _ (by omega)), h6.grown hg (hne _ hB)⟩
set_option maxRecDepth 100000 in
set_option maxHeartbeats 4000000 in
theorem parse_text2 (hd body : List UInt8) (near : Int) (w : World) (hE : Env w) (hn : 0 ≤ near ∧ near ≤ 52595999) (hf : ∀ c ∈ hd, c ≠ 10) (hs : hd.length + body.length ≤ 3999) :
    Calls Tryz.prog 22 #[.string (S (hd ++ 10 :: body)), .int .i64 near] w (BuO2 hd body near w) := by
  have hl : (lns body).length ≤ 4000 := Nat.le_trans (lns_short2 body) (by omega)
  obtain ⟨m, hm⟩ := hE.ml
  have hcut := fun (w : World) hm => Tryz.strings_Cut (S (hd ++ 10 :: body)) ⟨#[10]⟩ m w (by rw [S_size]; simp; omega) hm
  have hsz : (S (hd ++ 10 :: body)).size = hd.length + body.length + 1 := by rw [S_size]; simp; omega
  simp only [S_list] at hcut
  simp only [cut_app body hf] at hcut
  rw [show (⟨hd.toArray⟩ : ByteArray) = S hd from rfl, show (⟨body.toArray⟩ : ByteArray) = S body from rfl] at hcut
  obtain ⟨N, hN⟩ : ∃ N, hd.length + body.length + 1 = N := ⟨_, rfl⟩
  rw [hN] at hsz
  have h4 : ¬ (4000 : Int) < (N : Int) := by omega
  have HNN := Lib.hid hN
  clear hN
  have hs6 := Rs3.start w
  have hE6 := hE.under hs6.below
  have hm6 := (hs6.below.cell (p := ⟨3, 0, none⟩) (World.block_lt_of_cell? w _ hm)).trans hm
  have HS := Lib.hid (⟨hs6, hE6⟩ : Rs3 w (((w.alloc (.cells #[.string ⟨#[]⟩, .int .i64 0, .int .i64 0, .int .i64 0, .slice none 0 0] 24)).alloc (.cells #[.slice none 0 0] 25)).alloc (.cells #[.int .i64 0] 33)) ∧ Env (((w.alloc (.cells #[.string ⟨#[]⟩, .int .i64 0, .int .i64 0, .int .i64 0, .slice none 0 0] 24)).alloc (.cells #[.slice none 0 0] 25)).alloc (.cells #[.int .i64 0] 33)))
  have HE0 := Lib.hid hE
  clear hs6 hE6 hm hE
  have hk : decide (0 ≤ near ∧ near ≤ 52595999) = true := decide_eq_true hn
  have HW := Lib.hid (fun w => within_any near 52595999 w)
  rw [hk] at HW
  clear hk
  have HLN := Lib.hid hl
  have HFF := Lib.hid hf
  clear hl hf
  generalize S (hd ++ 10 :: body) = sv at *
  refine (callsIn_wide (n := 3)).1 ?_
  refine callsIn_of_wp_marks Tryz.func22 rfl trivial ?_ rfl
  simp only [Tryz.ntmps22, List.size_toArray, List.length_cons, List.length_nil, Nat.reduceAdd, Nat.reduceSub, Array.replicate_succ, Array.replicate_zero, List.push_toArray, List.append_toArray, List.nil_append, List.cons_append]
  gi_wp2_with (first
    | (refine ⟨trivial, ?_⟩; gi_at_call 42; refine (callsIn_wide.2 (HW.out _)).mono ?_; rintro e w' ⟨rfl, rfl⟩)
    | (refine ⟨trivial, ?_⟩; gi_at_call 51; refine (callsIn_wide.2 (hcut _ hm6)).mono ?_; rintro e w' ⟨rfl, kk, rfl⟩))
  have hd : Below (((w.alloc (.cells #[.string ⟨#[]⟩, .int .i64 0, .int .i64 0, .int .i64 0, .slice none 0 0] 24)).alloc (.cells #[.slice none 0 0] 25)).alloc (.cells #[.int .i64 0] 33)).heap.size (((w.alloc (.cells #[.string ⟨#[]⟩, .int .i64 0, .int .i64 0, .int .i64 0, .slice none 0 0] 24)).alloc (.cells #[.slice none 0 0] 25)).alloc (.cells #[.int .i64 0] 33)) ((((w.alloc (.cells #[.string ⟨#[]⟩, .int .i64 0, .int .i64 0, .int .i64 0, .slice none 0 0] 24)).alloc (.cells #[.slice none 0 0] 25)).alloc (.cells #[.int .i64 0] 33)).drewN kk) := below_drewN (Below.refl _ _) kk
  have HS1 := Lib.hid (⟨HS.out.1.under hd, HS.out.2.under hd⟩ : Rs3 w ((((w.alloc (.cells #[.string ⟨#[]⟩, .int .i64 0, .int .i64 0, .int .i64 0, .slice none 0 0] 24)).alloc (.cells #[.slice none 0 0] 25)).alloc (.cells #[.int .i64 0] 33)).drewN kk) ∧ Env ((((w.alloc (.cells #[.string ⟨#[]⟩, .int .i64 0, .int .i64 0, .int .i64 0, .slice none 0 0] 24)).alloc (.cells #[.slice none 0 0] 25)).alloc (.cells #[.int .i64 0] 33)).drewN kk))
  clear hd HS hm6 hcut HW
  generalize (((w.alloc (.cells #[.string ⟨#[]⟩, .int .i64 0, .int .i64 0, .int .i64 0, .slice none 0 0] 24)).alloc (.cells #[.slice none 0 0] 25)).alloc (.cells #[.int .i64 0] 33)).drewN kk = W1 at *
  refine ⟨trivial, (callsIn_wide.2 (readHeading_any hd near W1 HS1.out.2 hn (by omega))).mono ?_⟩
  rintro e w1 (⟨c, t, cor, del, hH, rfl, g1⟩ | ⟨hno, rfl, g1⟩)
  case inr =>
    have hb2 : Below w1.heap.size w1 (w1.alloc (.cells #[.string ⟨#[]⟩, .int .i64 0, .int .i64 0, .int .i64 0, .slice none 0 0] 24)) := (Below.refl _ _).alloc (Nat.le_refl _) _
    have HA := Lib.hid ((HS1.out.1.under g1).under hb2)
    have HNO := Lib.hid hno
    clear hb2 g1 hno HS1
    have f0 := HA.out.r4.thaw 0
    have f1 := HA.out.r4.thaw 1
    have f2 := HA.out.r4.thaw 2
    have f3 := HA.out.r4.thaw 3
    have f4 := HA.out.r4.thaw 4
    have f5 := HA.out.r5.thaw 0
    have f6 := HA.out.r6.thaw 0
    obtain ⟨q0, q1, q2, q3, q4⟩ := row5 HA.out.r4
    have q5 := (HA.out.r5.cell 0).trans rfl
    have q6 := (HA.out.r6.cell 0).trans rfl
    have HR := Lib.hid (HA.out.fin (.string ⟨#[]⟩) (.int .i64 0) (.int .i64 0) (.int .i64 0) (.slice none 0 0) (.slice none 0 0) (.int .i64 3))
    gi_wp2
    clear f0 f1 f2 f3 f4 f5 f6 q0 q1 q2 q3 q4 q5 q6
    refine ⟨.tuple #[zBul, .slice none 0 0, .int .i64 3], ?_, .inr (.inl ⟨HNO.out, rfl, HR.out.2.2.2⟩)⟩
    obtain ⟨z0, z1, z2, z3, z4⟩ := row5 HR.out.1
    have z5 := (HR.out.2.1.cell 0).trans rfl
    have z6 := (HR.out.2.2.1.cell 0).trans rfl
    simp [results, Tryz.results22, z0, z1, z2, z3, z4, z5, z6, go_sem]
  have hb2 : Below w1.heap.size w1 (w1.alloc (.cells (bulC (S c) t cor del (.slice none 0 0)) 24)) := (Below.refl _ _).alloc (Nat.le_refl _) _
  have hb3 : Below (w1.alloc (.cells (bulC (S c) t cor del (.slice none 0 0)) 24)).heap.size (w1.alloc (.cells (bulC (S c) t cor del (.slice none 0 0)) 24)) ((w1.alloc (.cells (bulC (S c) t cor del (.slice none 0 0)) 24)).alloc (.cells #[.slice none 0 0] 25)) := (Below.refl _ _).alloc (Nat.le_refl _) _
  gi_wp2_with (refine ⟨trivial, ?_⟩; gi_at_call 53; refine (lines_any _ (S body) _).mono ?_; rintro e w' ⟨rfl, rfl⟩)
  have hb4 : Below w1.heap.size w1 (((w1.alloc (.cells (bulC (S c) t cor del (.slice none 0 0)) 24)).alloc (.cells #[.slice none 0 0] 25)).alloc (.cells #[.string (S body)] 9)) := (hb2.trans (hb3.mono (by simp))).alloc (by simp; omega) _
  have hE3 := (HS1.out.2.under g1).under hb4
  have hR3 := (HS1.out.1.under g1).under hb4
  have hB3 : Bst (S c) t cor del w1.heap.size w1.heap.size (w1.heap.size + 1) [] [] (.slice none 0 0) (.slice none 0 0) (((w1.alloc (.cells (bulC (S c) t cor del (.slice none 0 0)) 24)).alloc (.cells #[.slice none 0 0] 25)).alloc (.cells #[.string (S body)] 9)) :=
    ⟨((Row.new _ _ _).alloc _).alloc _, (Row.newAt (by simp)).alloc _, World.ownsRow_nil _ _ _ _, World.ownsRow_nil _ _ _ _, fun r hr => absurd hr List.not_mem_nil, fun r hr => absurd hr List.not_mem_nil, Nat.le_refl _, by omega⟩
  have hc3 : Row (((w1.alloc (.cells (bulC (S c) t cor del (.slice none 0 0)) 24)).alloc (.cells #[.slice none 0 0] 25)).alloc (.cells #[.string (S body)] 9)) (w1.heap.size + 1 + 1) 9 #[.string (S body)] := Row.newAt (by simp)
  have hg4 : w.heap.size + 1 + 1 < w1.heap.size := Nat.lt_of_lt_of_le HS1.out.1.r6.lt g1.size
  have ht : 0 ≤ t ∧ t ≤ 52595999 := by
    obtain ⟨st, rest, -, -, ⟨d, h, i, -, -, -, -, hr⟩, -⟩ := hH
    exact (rsv_own hr).1
  have HX := Lib.hid (⟨hE3, hR3, hB3, hc3, hg4, ht⟩ : Env (((w1.alloc (.cells (bulC (S c) t cor del (.slice none 0 0)) 24)).alloc (.cells #[.slice none 0 0] 25)).alloc (.cells #[.string (S body)] 9)) ∧ Rs3 w (((w1.alloc (.cells (bulC (S c) t cor del (.slice none 0 0)) 24)).alloc (.cells #[.slice none 0 0] 25)).alloc (.cells #[.string (S body)] 9)) ∧ Bst (S c) t cor del w1.heap.size w1.heap.size (w1.heap.size + 1) [] [] (.slice none 0 0) (.slice none 0 0) (((w1.alloc (.cells (bulC (S c) t cor del (.slice none 0 0)) 24)).alloc (.cells #[.slice none 0 0] 25)).alloc (.cells #[.string (S body)] 9)) ∧ Row (((w1.alloc (.cells (bulC (S c) t cor del (.slice none 0 0)) 24)).alloc (.cells #[.slice none 0 0] 25)).alloc (.cells #[.string (S body)] 9)) (w1.heap.size + 1 + 1) 9 #[.string (S body)] ∧ w.heap.size + 1 + 1 < w1.heap.size ∧ 0 ≤ t ∧ t ≤ 52595999)
  have HH := Lib.hid hH
  clear hb4 hE3 hR3 hB3 hc3 hg4 ht hb2 hb3 g1 HS1 hH
  generalize (((w1.alloc (.cells (bulC (S c) t cor del (.slice none 0 0)) 24)).alloc (.cells #[.slice none 0 0] 25)).alloc (.cells #[.string (S body)] 9)) = W3 at *
  generalize w1.heap.size = g10 at *
  refine wpIn_rangeFunc_ownG rfl (by omega) (gf := 90) (lb := #[.pointer (some ⟨g10 + 1 + 1, 0, none⟩)]) rfl trivial (enters_of Tryz.func90 (by kernel_rfl) rfl)
    (lines_stops2 (3 - 1) (by omega) (g10 + 1 + 1) g10 body W3 HX.out.2.2.2.1.lt ((HX.out.2.2.2.1.cell 0).trans rfl) (by omega) HLN.out) belowK_t (belowK_b (Nat.le_of_lt HX.out.2.2.1.bul.lt)) (Below.refl _ _) (fun _ => rfl)
    (fun pre W => (∃ (R : List Rp) (dm : List Int) (vr vd : Value), R.map Rp.key = goods t (pre.map (·.1)) ∧ dm = bads t (pre.map (·.1)) ∧ Bst (S c) t cor del g10 g10 (g10 + 1) R dm vr vd W ∧ R.length ≤ pre.length ∧ dm.length ≤ pre.length ∧ ∀ x ∈ pre, x.1.1 ≤ 60) ∧ Below g10 W3 W)
    (fun cd pre W => cd = .ret ∧ (∃ x ∈ pre, 60 < x.1.1) ∧ Rz w W)
    (OwnFrom.and (Own.from (fun s A B row hs hg hr => by obtain ⟨R, dm, vr, vd, h1, h2, h3, h4⟩ := hs; exact ⟨R, dm, vr, vd, h1, h2, h3.keep (.turn hg hr), h4⟩) _) (ownFrom_below (Nat.le_of_lt HX.out.2.2.1.bul.lt) (Nat.le_of_lt HX.out.2.2.1.bul.lt)))
    (fun cd => Rz.own (by have := HX.out.2.2.2.2.1; have := HX.out.2.2.1.dam.lt; omega) cd)
    ⟨⟨[], [], _, _, rfl, rfl, HX.out.2.2.1, Nat.le_refl _, Nat.le_refl _, fun x hx => absurd hx List.not_mem_nil⟩, Below.refl _ _⟩
    ?acts ?assign ?body ?done ?stop
  case assign =>
    intro l x W K hK
    gi_wp2
    exact hK
  case body =>
    rintro l pre ⟨⟨kn, ln⟩, hk, hln⟩ W ⟨⟨R, dm, vr, vd, hR, hdm, hB, hl1, hl2, hl3⟩, hb⟩ hlen
    simp only at hk hln
    have HRR := Lib.hid hR
    have HDM := Lib.hid hdm
    clear hR hdm
    by_cases k61 : 60 < kn
    · have n61 : (60 : Int) < (kn : Int) := by omega
      have HRS := Lib.hid (HX.out.2.1.low hb HX.out.2.2.2.2.1)
      have HB3 := Lib.hid (And.intro HX.out.2.2.2.2.1 HX.out.2.2.1.dam.lt)
      clear hB hb hl1 hl2 hl3 HRR HDM HLN
      have f0 := HRS.out.r4.thaw 0
      have f1 := HRS.out.r4.thaw 1
      have f2 := HRS.out.r4.thaw 2
      have f3 := HRS.out.r4.thaw 3
      have f4 := HRS.out.r4.thaw 4
      have f5 := HRS.out.r5.thaw 0
      have f6 := HRS.out.r6.thaw 0
      obtain ⟨q0, q1, q2, q3, q4⟩ := row5 HRS.out.r4
      have q5 := (HRS.out.r5.cell 0).trans rfl
      have q6 := (HRS.out.r6.cell 0).trans rfl
      have HFN := Lib.hid (HRS.out.fin (.string ⟨#[]⟩) (.int .i64 0) (.int .i64 0) (.int .i64 0) (.slice none 0 0) (.slice none 0 0) (.int .i64 2))
      gi_wp2
      clear f0 f1 f2 f3 f4 f5 f6 q0 q1 q2 q3 q4 q5 q6
      have hks := ((((((KeepsOthers.setCell W ⟨w.heap.size, 0, none⟩ (.string ⟨#[]⟩)).trans (KeepsOthers.setCell _ ⟨w.heap.size, 1, none⟩ (.int .i64 0))).trans (KeepsOthers.setCell _ ⟨w.heap.size, 2, none⟩ (.int .i64 0))).trans (KeepsOthers.setCell _ ⟨w.heap.size, 3, none⟩ (.int .i64 0))).trans (KeepsOthers.setCell _ ⟨w.heap.size, 4, none⟩ (.slice none 0 0))).trans (KeepsOthers.setCell _ ⟨w.heap.size + 1, 0, none⟩ (.slice none 0 0))).trans (KeepsOthers.setCell _ ⟨w.heap.size + 1 + 1, 0, none⟩ (.int .i64 2))
      exact ⟨hks.from _, rfl, ⟨_, List.mem_append_right _ (List.mem_singleton.2 rfl), k61⟩, HFN.out.2.2.2, HFN.out.1, HFN.out.2.1, HFN.out.2.2.1⟩
    have k60 : ¬ (60 : Int) < (kn : Int) := by omega
    have hlen60 : pre.length < 4000 := Nat.lt_of_lt_of_le hlen HLN.out
    have HL3 := Lib.hid hl3; clear hl3
    have HK6 := Lib.hid k61; clear k61
    obtain ⟨q0, q1, q2, q3, q4⟩ := row5 hB.bul
    have hEW : Env W := HE0.out.under (HX.out.2.1.below.trans (hb.mono (by have := HX.out.2.2.2.2.1; omega)))
    have HRd := Lib.hid (readLine_any ln t W hEW HX.out.2.2.2.2.2 hln)
    clear q0 q2 q3 q4
    gi_wp2
    refine ⟨trivial, (CallsIn.inRound l (callsIn_wide.2 HRd.out)).mono ?_⟩
    clear q1 HRd
    rintro e w' (⟨k', nm, t', F, A, B, C, L, u, hq, rfl, hu, hb1, ho⟩ | ⟨hno, rfl, hb1⟩)
    · have hba : Below w'.heap.size w' (w'.alloc (.cells (repC k' (S nm) t' F A B C u) 53)) := (Below.refl _ _).alloc (Nat.le_refl _) _
      have hB1 := (hB.under hb1).under hba
      have hu1 := hu.under hba
      obtain ⟨Au, cu, eu, -⟩ := id hu
      subst eu
      have HF := Lib.hid (fun i hi => hB.far (ho i hi))
      have ra := Row.new w' (repC k' (S nm) t' F A B C (.slice Au L.length cu)) 53
      have hK1 : KeepsFrom W3.heap.size W (w'.alloc (.cells (repC k' (S nm) t' F A B C (.slice Au L.length cu)) 53)) := (KeepsFrom.below hb1).trans ((KeepsOthers.alloc _ _).from _)
      have hg1 : Below g10 W (w'.alloc (.cells (repC k' (S nm) t' F A B C (.slice Au L.length cu)) 53)) := (hb1.trans (hba.mono hb1.size)).mono (Nat.le_of_lt hB.bul.lt)
      obtain ⟨Ar, cr, er⟩ := row_form hB1.row
      subst er
      have HQ := Lib.hid hq
      clear hba hu hq hb1 ho
      generalize hnm : S nm = nb at *
      have HNM := Lib.hid hnm
      clear hnm
      obtain ⟨i0, hi, hz0, hz1, hz2⟩ := info_parts infoReport
      have hb5 : Below (w'.alloc (.cells (repC k' nb t' F A B C (.slice Au L.length cu)) 53)).heap.size (w'.alloc (.cells (repC k' nb t' F A B C (.slice Au L.length cu)) 53)) ((w'.alloc (.cells (repC k' nb t' F A B C (.slice Au L.length cu)) 53)).alloc (.cells (repC k' nb t' F A B C (.slice Au L.length cu)) 53)) := (Below.refl _ _).alloc (Nat.le_refl _) _
      have hB2 := hB1.under hb5
      obtain ⟨q0, q1, q2, q3, q4⟩ := row5 hB1.bul
      obtain ⟨p0, p1, p2, p3, p4, p5, p6, p7⟩ := row8 ra
      have HC8 := Lib.hid (eight_at (r := (⟨k', nb, t', F, A, B, C, .slice Au L.length cu, L⟩ : Rp)) (Row.newAt (w := (w'.alloc (.cells (repC k' nb t' F A B C (.slice Au L.length cu)) 53))) (cs := repC k' nb t' F A B C (.slice Au L.length cu)) (t := 53) (g := w'.heap.size + 1) (by simp)))
      clear hb5 q0 q1 q2 q3
      gi_wp2_with (gi_at_builtin; refine wpListIn_append_own_at _ rfl _ _ 22 rfl g10 53 i0 (repV 0 ⟨#[]⟩ 0 0 0 0 0 (.slice none 0 0)) 8 88 Tryz.underlying22 hi hz0 hz1 hz2 rfl (by decide) (.slice Ar R.length cr) R.length (rpc R) rfl hB2.row ⟨w'.heap.size + 1, 0, none⟩ 1 1 (rpCells (⟨k', nb, t', F, A, B, C, .slice Au L.length cu, L⟩ : Rp)) rfl rfl HC8.out (fun u hu => by simp only [rpCells, List.mem_cons, List.not_mem_nil, or_false] at hu; rcases hu with rfl | rfl | rfl | rfl | rfl | rfl | rfl | rfl <;> rfl) (by unfold maxLen; omega) (by omega) (Nat.le_trans (Nat.le_succ g10) (Nat.le_of_lt hB2.dam.lt)) ?_; intro v' w9 hown' hgrow _ hat; obtain ⟨g', cap', rfl⟩ := ownsRow_succ hown'; have hD := hB1.read (r := (⟨k', nb, t', F, A, B, C, .slice Au L.length cu, L⟩ : Rp)) (by omega) hu1 (fun _ i hi => HF.out i hi) hown' hgrow hat; have hc1 := (hD.1.cell 4).trans rfl; have hf1 := hD.1.thaw 4)
      have e0 : rdl t ln = some (Rp.key (⟨k', nb, t', F, A, B, C, .slice Au L.length cu, L⟩ : Rp)) := rdl_yes ⟨nm, HNM.out.symm, HQ.out⟩
      obtain ⟨e1, e2⟩ := goods_yes (xs := pre.map (·.1)) (x := (kn, ln)) e0
      exact ⟨hK1.trans (hD.2.2.1.from _), hg1.trans hD.2.2.2, ⟨R ++ [(⟨k', nb, t', F, A, B, C, .slice Au L.length cu, L⟩ : Rp)], dm, _, vd, by rw [List.map_append, List.map_append, HRR.out]; exact e1.symm, by rw [List.map_append, HDM.out]; exact e2.symm, hD.2.1, by simp; omega, by simp; omega, fun x hx => (List.mem_append.1 hx).elim (HL3.out x) (fun q => by rw [List.mem_singleton.1 q]; have := HK6.out; exact Nat.le_of_not_lt this)⟩, hb.trans (hg1.trans hD.2.2.2)⟩
    · have hba : Below w'.heap.size w' (w'.alloc (.cells (repC 0 ⟨#[]⟩ 0 0 0 0 0 (.slice none 0 0)) 53)) := (Below.refl _ _).alloc (Nat.le_refl _) _
      have hB1 := (hB.under hb1).under hba
      have hK1 : KeepsFrom W3.heap.size W (w'.alloc (.cells (repC 0 ⟨#[]⟩ 0 0 0 0 0 (.slice none 0 0)) 53)) := (KeepsFrom.below hb1).trans ((KeepsOthers.alloc _ _).from _)
      have hg1 : Below g10 W (w'.alloc (.cells (repC 0 ⟨#[]⟩ 0 0 0 0 0 (.slice none 0 0)) 53)) := (hb1.trans (hba.mono hb1.size)).mono (Nat.le_of_lt hB.bul.lt)
      obtain ⟨Ad, cd, ed⟩ := row_form hB1.nums
      subst ed
      have HNO := Lib.hid (rdl_no hno)
      obtain ⟨i0, hi, hz0, hz1, hz2⟩ := info_parts infoIntB
      have hb5 : Below (w'.alloc (.cells (repC 0 ⟨#[]⟩ 0 0 0 0 0 (.slice none 0 0)) 53)).heap.size (w'.alloc (.cells (repC 0 ⟨#[]⟩ 0 0 0 0 0 (.slice none 0 0)) 53)) ((w'.alloc (.cells (repC 0 ⟨#[]⟩ 0 0 0 0 0 (.slice none 0 0)) 53)).alloc (.cells #[.int .i64 (kn : Int)] 3)) := (Below.refl _ _).alloc (Nat.le_refl _) _
      have hB2 := hB1.under hb5
      have d0 := (hB1.dam.cell 0).trans rfl
      have HC1 := Lib.hid (show ∀ (j : Nat) (u : Value), [Value.int .i64 (kn : Int)][j]? = some u → ((w'.alloc (.cells (repC 0 ⟨#[]⟩ 0 0 0 0 0 (.slice none 0 0)) 53)).alloc (.cells #[.int .i64 (kn : Int)] 3)).cell? ((⟨w'.heap.size + 1, 0, none⟩ : Addr).add j) = some u by have h9 := cell_one_new (w'.alloc (.cells (repC 0 ⟨#[]⟩ 0 0 0 0 0 (.slice none 0 0)) 53)) (.int .i64 (kn : Int)) 3; rwa [show (w'.alloc (.cells (repC 0 ⟨#[]⟩ 0 0 0 0 0 (.slice none 0 0)) 53)).heap.size = w'.heap.size + 1 by simp] at h9)
      clear hba hb1 hno hb5
      gi_wp2_with (gi_at_builtin; refine wpListIn_append_own_at _ rfl _ _ 25 rfl g10 3 i0 (.int .i64 0) 1 8 Tryz.underlying25 hi hz0 hz1 hz2 rfl (by decide) (.slice Ad dm.length cd) dm.length (dm.map (Value.int .i64)) rfl hB2.nums ⟨w'.heap.size + 1, 0, none⟩ 1 1 [.int .i64 (kn : Int)] rfl rfl HC1.out (fun u hu => by rw [List.mem_singleton.1 hu]; rfl) (by unfold maxLen; omega) (by omega) (Nat.le_trans (Nat.le_succ g10) (Nat.le_of_lt hB2.dam.lt)) ?_; intro v' w9 hown' hgrow _ hat; obtain ⟨g', cap', rfl⟩ := ownsRow_succ hown'; have hD := hB1.damaged (by omega) hown' hgrow hat; have hc1 := (hD.1.cell 0).trans rfl; have hf1 := hD.1.thaw 0)
      obtain ⟨e1, e2⟩ := goods_no (xs := pre.map (·.1)) (x := (kn, ln)) HNO.out
      exact ⟨hK1.trans (hD.2.2.1.from _), hg1.trans hD.2.2.2, ⟨R, dm ++ [(kn : Int)], vr, _, by rw [List.map_append]; exact HRR.out.trans e1.symm, by rw [List.map_append, HDM.out]; exact e2.symm, hD.2.1, by simp; omega, by simp; omega, fun x hx => (List.mem_append.1 hx).elim (HL3.out x) (fun q => by rw [List.mem_singleton.1 q]; have := HK6.out; exact Nat.le_of_not_lt this)⟩, hb.trans (hg1.trans hD.2.2.2)⟩
  case done =>
    rintro D ys W hD hys ⟨⟨R, dm, vr, vd, hR, hdm, hB, -, -, hl3⟩, hb⟩ hK
    have HRR := Lib.hid hR
    have HDM := Lib.hid hdm
    have HYS := Lib.hid hys
    have HL6 : Hid ((lns body).length ≤ 60) := Lib.hid (Nat.le_of_not_lt fun h6 => by
      obtain ⟨l6, hm6⟩ := nums_last (lns body) 1 60 h6
      rw [← hys] at hm6
      obtain ⟨x6, hx6, he6⟩ := List.mem_map.1 hm6
      have := hl3 x6 hx6
      rw [he6] at this
      exact absurd (show 1 + 60 ≤ 60 from this) (by decide))
    clear hl3
    clear hR hdm hys
    gi_wp2
    obtain ⟨Ar, cr, er⟩ := row_form hB.row
    subst er
    obtain ⟨Ad, cd, ed⟩ := row_form hB.nums
    subst ed
    have HRS := Lib.hid (HX.out.2.1.low hb HX.out.2.2.2.2.1)
    have hlow := HX.out.2.2.2.2.1
    have HDD := Lib.hid (show W.drew.heap[D]? = some (.deferred (some [])) from hK)
    have HBD := Lib.hid (⟨hB.bul, hB.dam⟩ : Row W.drew g10 24 (bulC (S c) t cor del (.slice Ar R.length cr)) ∧ Row W.drew (g10 + 1) 25 #[.slice Ad dm.length cd])
    have HRD := Lib.hid (show Rs3 w W.drew from HRS.out.under (below_drewN (Below.refl _ _) 1))
    have HBB := Lib.hid (show Bst (S c) t cor del g10 g10 (g10 + 1) R dm (.slice Ar R.length cr) (.slice Ad dm.length cd) W.drew from hB.under (below_drewN (Below.refl _ _) 1))
    have HFN := Lib.hid (HRD.out.fin (.string (S c)) (.int .i64 t) (.int .i64 cor) (.int .i64 del) (.slice Ar R.length cr) (.slice Ad dm.length cd) (.int .i64 0))
    have hDl : W3.heap.size ≤ D := hD
    have hg3 : g10 + 1 < W3.heap.size := HX.out.2.2.1.dam.lt
    refine wpIn_wide.2 (wp_normal ?_)
    refine wp_region_held_drew (S := fun Y : World => (Y.cell? ⟨g10, 0, none⟩ = some (.string (S c)) ∧ Y.cell? ⟨g10, 1, none⟩ = some (.int .i64 t) ∧ Y.cell? ⟨g10, 2, none⟩ = some (.int .i64 cor) ∧ Y.cell? ⟨g10, 3, none⟩ = some (.int .i64 del) ∧ Y.cell? ⟨g10, 4, none⟩ = some (.slice Ar R.length cr)) ∧ Y.cell? ⟨g10 + 1, 0, none⟩ = some (.slice Ad dm.length cd)) (by kernel_rfl) ⟨row5 hB.bul, (hB.dam.cell 0).trans rfl⟩ (fun hHeld => ?_)
    clear hB hb hK HRS
    generalize W.drew = Wd at *
    have f0 := HRD.out.r4.thaw 0
    have f1 := HRD.out.r4.thaw 1
    have f2 := HRD.out.r4.thaw 2
    have f3 := HRD.out.r4.thaw 3
    have f4 := HRD.out.r4.thaw 4
    obtain ⟨q0, q1, q2, q3, q4⟩ := row5 HRD.out.r4
    refine wpAnyH_take (i := 0) (oi := ⟨some 72, _, _, _, _, none⟩) (v := ?_) rfl (by kernel_rfl) (by kernel_rfl) (by kernel_rfl) (fun _ _ _ h => h) (Or.inl ⟨by rfl, ?_⟩) (by assumption) ?_
    case refine_2 => (intro wx hSx; (try dsimp only at hSx); go_simp; first | done | with_reducible rfl)
    try simp only [Act.put, List.setIfInBounds_toArray, List.set_cons_zero, List.set_cons_succ]
    refine wpAnyH_take (i := 1) (oi := ⟨some 73, _, _, _, _, none⟩) (v := ?_) rfl (by kernel_rfl) (by kernel_rfl) (by kernel_rfl) (fun _ _ _ h => h) (Or.inl ⟨by rfl, ?_⟩) (by assumption) ?_
    case refine_2 => (intro wx hSx; (try dsimp only at hSx); go_simp; first | done | with_reducible rfl)
    try simp only [Act.put, List.setIfInBounds_toArray, List.set_cons_zero, List.set_cons_succ]
    refine wpAnyH_ready (rs := [2]) (by kernel_rfl) (by simp) ?_
    refine AllReadyH.cons (o := ⟨none, _, _, _, _, none⟩) rfl (fun Kx hK => ?_) AllReadyH.nil
    go_simp
    have b2 := (((((HBD.out.1.far (p := ⟨w.heap.size, 0, none⟩) (by simp only; omega) (.string (S c))).far (p := ⟨w.heap.size, 1, none⟩) (by simp only; omega) (.int .i64 t)).far (p := ⟨w.heap.size, 2, none⟩) (by simp only; omega) (.int .i64 cor)).far (p := ⟨w.heap.size, 3, none⟩) (by simp only; omega) (.int .i64 del)).far (p := ⟨w.heap.size, 4, none⟩) (by simp only; omega) (.slice Ar R.length cr))
    have d2 := (((((HBD.out.2.far (p := ⟨w.heap.size, 0, none⟩) (by simp only; omega) (.string (S c))).far (p := ⟨w.heap.size, 1, none⟩) (by simp only; omega) (.int .i64 t)).far (p := ⟨w.heap.size, 2, none⟩) (by simp only; omega) (.int .i64 cor)).far (p := ⟨w.heap.size, 3, none⟩) (by simp only; omega) (.int .i64 del)).far (p := ⟨w.heap.size, 4, none⟩) (by simp only; omega) (.slice Ar R.length cr))
    have r52 := (((((HRD.out.r5.far (p := ⟨w.heap.size, 0, none⟩) (by simp only; omega) (.string (S c))).far (p := ⟨w.heap.size, 1, none⟩) (by simp only; omega) (.int .i64 t)).far (p := ⟨w.heap.size, 2, none⟩) (by simp only; omega) (.int .i64 cor)).far (p := ⟨w.heap.size, 3, none⟩) (by simp only; omega) (.int .i64 del)).far (p := ⟨w.heap.size, 4, none⟩) (by simp only; omega) (.slice Ar R.length cr))
    have r62 := (((((HRD.out.r6.far (p := ⟨w.heap.size, 0, none⟩) (by simp only; omega) (.string (S c))).far (p := ⟨w.heap.size, 1, none⟩) (by simp only; omega) (.int .i64 t)).far (p := ⟨w.heap.size, 2, none⟩) (by simp only; omega) (.int .i64 cor)).far (p := ⟨w.heap.size, 3, none⟩) (by simp only; omega) (.int .i64 del)).far (p := ⟨w.heap.size, 4, none⟩) (by simp only; omega) (.slice Ar R.length cr))
    refine hK.out _ _ ⟨row5 b2, (d2.cell 0).trans rfl⟩ (fun hHeld2 => ?_)
    clear f0 f1 f2 f3 f4 q0 q1 q2 q3 q4 hHeld
    clear hK Kx
    ((try simp only [Act.put]); (try simp only [List.setIfInBounds_toArray]); (try simp only [List.set_cons_succ]); (try simp only [List.set_cons_zero]))
    have f5 := r52.thaw 0
    have q5 := (r52.cell 0).trans rfl
    refine wpAnyH_ready (rs := [3]) (by kernel_rfl) (by simp) ?_
    refine AllReadyH.cons (o := ⟨none, _, _, _, _, none⟩) rfl (fun Kx hK => ?_) AllReadyH.nil
    go_simp
    have b3 := (b2.far (p := ⟨w.heap.size + 1, 0, none⟩) (by simp only; omega) (.slice Ad dm.length cd))
    have d3 := (d2.far (p := ⟨w.heap.size + 1, 0, none⟩) (by simp only; omega) (.slice Ad dm.length cd))
    have r63 := (r62.far (p := ⟨w.heap.size + 1, 0, none⟩) (by simp only; omega) (.slice Ad dm.length cd))
    refine hK.out _ _ ⟨row5 b3, (d3.cell 0).trans rfl⟩ (fun hHeld3 => ?_)
    clear f5 q5 hHeld2 b2 d2 r52 r62
    clear hK Kx
    ((try simp only [Act.put]); (try simp only [List.setIfInBounds_toArray]); (try simp only [List.set_cons_succ]); (try simp only [List.set_cons_zero]))
    have f6 := r63.thaw 0
    have q6 := (r63.cell 0).trans rfl
    refine wpAnyH_ready (rs := [4]) (by kernel_rfl) (by simp) ?_
    refine AllReadyH.cons (o := ⟨none, _, _, _, _, none⟩) rfl (fun Kx hK => ?_) AllReadyH.nil
    go_simp
    have b4 := (b3.far (p := ⟨w.heap.size + 1 + 1, 0, none⟩) (by simp only; omega) (.int .i64 0))
    have d4 := (d3.far (p := ⟨w.heap.size + 1 + 1, 0, none⟩) (by simp only; omega) (.int .i64 0))
    refine hK.out _ _ ⟨row5 b4, (d4.cell 0).trans rfl⟩ (fun hHeld4 => ?_)
    clear f6 q6 hHeld3 b3 d3 r63
    clear hK Kx
    ((try simp only [Act.put]); (try simp only [List.setIfInBounds_toArray]); (try simp only [List.set_cons_succ]); (try simp only [List.set_cons_zero]))
    refine wpAnyH_done (by kernel_rfl) ?_ _
    simp only [Exit.then]
    clear hHeld4 b4 d4
    gi_wp2
    have hks := ((((((KeepsOthers.setCell Wd ⟨w.heap.size, 0, none⟩ (.string (S c))).trans (KeepsOthers.setCell _ ⟨w.heap.size, 1, none⟩ (.int .i64 t))).trans (KeepsOthers.setCell _ ⟨w.heap.size, 2, none⟩ (.int .i64 cor))).trans (KeepsOthers.setCell _ ⟨w.heap.size, 3, none⟩ (.int .i64 del))).trans (KeepsOthers.setCell _ ⟨w.heap.size, 4, none⟩ (.slice Ar R.length cr))).trans (KeepsOthers.setCell _ ⟨w.heap.size + 1, 0, none⟩ (.slice Ad dm.length cd))).trans (KeepsOthers.setCell _ ⟨w.heap.size + 1 + 1, 0, none⟩ (.int .i64 0))
    have hKY : (((((((Wd.setCell ⟨w.heap.size, 0, none⟩ (.string (S c))).setCell ⟨w.heap.size, 1, none⟩ (.int .i64 t)).setCell ⟨w.heap.size, 2, none⟩ (.int .i64 cor)).setCell ⟨w.heap.size, 3, none⟩ (.int .i64 del)).setCell ⟨w.heap.size, 4, none⟩ (.slice Ar R.length cr)).setCell ⟨w.heap.size + 1, 0, none⟩ (.slice Ad dm.length cd)).setCell ⟨w.heap.size + 1 + 1, 0, none⟩ (.int .i64 0)).heap[D]? = some (.deferred (some [])) := hks.same D _ HDD.out rfl
    have hlow2 : ∀ i, g10 ≤ i → (((((((Wd.setCell ⟨w.heap.size, 0, none⟩ (.string (S c))).setCell ⟨w.heap.size, 1, none⟩ (.int .i64 t)).setCell ⟨w.heap.size, 2, none⟩ (.int .i64 cor)).setCell ⟨w.heap.size, 3, none⟩ (.int .i64 del)).setCell ⟨w.heap.size, 4, none⟩ (.slice Ar R.length cr)).setCell ⟨w.heap.size + 1, 0, none⟩ (.slice Ad dm.length cd)).setCell ⟨w.heap.size + 1 + 1, 0, none⟩ (.int .i64 0)).heap[i]? = Wd.heap[i]? := fun i hi =>
      (Below.heap_setCell _ ⟨w.heap.size + 1 + 1, 0, none⟩ _ i (by simp only; omega)).trans ((Below.heap_setCell _ ⟨w.heap.size + 1, 0, none⟩ _ i (by simp only; omega)).trans ((Below.heap_setCell _ ⟨w.heap.size, 4, none⟩ _ i (by simp only; omega)).trans ((Below.heap_setCell _ ⟨w.heap.size, 3, none⟩ _ i (by simp only; omega)).trans ((Below.heap_setCell _ ⟨w.heap.size, 2, none⟩ _ i (by simp only; omega)).trans ((Below.heap_setCell _ ⟨w.heap.size, 1, none⟩ _ i (by simp only; omega)).trans (Below.heap_setCell _ ⟨w.heap.size, 0, none⟩ _ i (by simp only; omega)))))))
    have hsz9 := hks.size
    refine ⟨by simp, .inl ⟨_, _, rfl, run_takeDeferred hKY, ?_⟩⟩
    obtain ⟨z1, z2, z3, z4⟩ := HFN.out
    clear HFN
    generalize (((((((Wd.setCell ⟨w.heap.size, 0, none⟩ (.string (S c))).setCell ⟨w.heap.size, 1, none⟩ (.int .i64 t)).setCell ⟨w.heap.size, 2, none⟩ (.int .i64 cor)).setCell ⟨w.heap.size, 3, none⟩ (.int .i64 del)).setCell ⟨w.heap.size, 4, none⟩ (.slice Ar R.length cr)).setCell ⟨w.heap.size + 1, 0, none⟩ (.slice Ad dm.length cd)).setCell ⟨w.heap.size + 1 + 1, 0, none⟩ (.int .i64 0)) = Y at *
    have gp := grownBy_putObj' Y D (.deferred none)
    have kp : CellsKept Y (Y.putObj D (.deferred none)) := .turn gp (fun r e => by cases e; exact ⟨_, hKY, rfl⟩)
    obtain ⟨l1, l2, l3⟩ := HBB.out.last (W' := Y.putObj D (.deferred none)) (Nat.le_trans hsz9 kp.1) (fun i o hi ho hc => kp.2 i o ((hlow2 i hi).trans ho) hc)
    have z1' : Row (Y.putObj D (.deferred none)) w.heap.size 24 _ := kp.2 _ _ z1 rfl
    have z2' : Row (Y.putObj D (.deferred none)) (w.heap.size + 1) 25 _ := kp.2 _ _ z2 rfl
    have z3' : Row (Y.putObj D (.deferred none)) (w.heap.size + 1 + 1) 33 _ := kp.2 _ _ z3 rfl
    have hwD : w.heap.size ≤ D := by omega
    refine ⟨.tuple #[bulV (S c) t cor del (.slice Ar R.length cr), .slice Ad dm.length cd, .int .i64 0], ?_, .inl ⟨HL6.out, c, t, cor, del, R, _, .slice Ad dm.length cd, HH.out, ?_, rfl, own_low l1 (by omega), ?_, fun r hr => ⟨l3 r hr, fun hL i hi => by have := (HBB.out.sep r hr hL i hi).1; omega⟩, z4.trans (belowK_b (w := w) (Nat.le_refl _) Y D _ _ hwD hKY rfl rfl)⟩⟩
    · obtain ⟨a0, a1, a2, a3, a4⟩ := row5 z1'
      have a5 := (z2'.cell 0).trans rfl
      have a6 := (z3'.cell 0).trans rfl
      simp [results, Tryz.results22, a0, a1, a2, a3, a4, a5, a6, go_sem]
    · rw [HRR.out, HYS.out]
    · have e9 : dm = bads t (nums 1 (lns body)) := by rw [HDM.out, HYS.out]
      rw [← e9]
      exact own_low l2 (by omega)
  case stop =>
    rintro D cc pre W hD ⟨z, hz⟩ ⟨rfl, ⟨x, hx, h61⟩, hB, z1, z2, z3⟩ hK
    have hmany : 60 < (lns body).length := by
      have hm : x.1 ∈ nums 1 (lns body) := by rw [← hz]; exact List.mem_append_left _ (List.mem_map.2 ⟨x, hx, rfl⟩)
      have := (nums_mem _ _ _ hm).2
      omega
    have HMN := Lib.hid hmany
    have hlow := HX.out.2.2.2.2.1
    have hg3 : g10 + 1 < W3.heap.size := HX.out.2.2.1.dam.lt
    have hDl : W3.heap.size ≤ D := hD
    have HZ := Lib.hid (And.intro hB (And.intro z1 (And.intro z2 z3)))
    clear hz hx h61 hmany hB z1 z2 z3
    gi_wp2
    refine ⟨by simp, .inl ⟨_, _, rfl, run_takeDeferred hK, ?_⟩⟩
    have gp := grownBy_putObj' W D (.deferred none)
    have kp : CellsKept W (W.putObj D (.deferred none)) := .turn gp (fun r e => by cases e; exact ⟨_, hK, rfl⟩)
    have z1' : Row (W.putObj D (.deferred none)) w.heap.size 24 _ := kp.2 _ _ HZ.out.2.1 rfl
    have z2' : Row (W.putObj D (.deferred none)) (w.heap.size + 1) 25 _ := kp.2 _ _ HZ.out.2.2.1 rfl
    have z3' : Row (W.putObj D (.deferred none)) (w.heap.size + 1 + 1) 33 _ := kp.2 _ _ HZ.out.2.2.2 rfl
    have hwD : w.heap.size ≤ D := by omega
    refine ⟨.tuple #[zBul, .slice none 0 0, .int .i64 2], ?_, .inr (.inr ⟨HMN.out, ⟨c, t, cor, del, HH.out⟩, rfl, HZ.out.1.grown gp (Nat.le_trans (Nat.le_refl _) HZ.out.1.size) (fun r e => by cases e; exact hwD)⟩)⟩
    obtain ⟨a0, a1, a2, a3, a4⟩ := row5 z1'
    have a5 := (z2'.cell 0).trans rfl
    have a6 := (z3'.cell 0).trans rfl
    simp [results, Tryz.results22, a0, a1, a2, a3, a4, a5, a6, go_sem]
end Go.Proofs.YtfnlgfacadmjpaaGreatDoor.Bu
