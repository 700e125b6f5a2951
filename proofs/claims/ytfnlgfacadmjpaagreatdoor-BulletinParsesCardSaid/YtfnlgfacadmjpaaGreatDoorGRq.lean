/- The reference's contract of Parse at any text. -/
import Derived.Test.YtfnlgfacadmjpaaGreatDoorGRh
import Derived.Test.YtfnlgfacadmjpaaGreatDoorGNd
import Derived.Test.YtfnlgfacadmjpaaGreatDoorGOwn
import Derived.Test.YtfnlgfacadmjpaaGreatDoorGRw
import Derived.Deep.AppendLies
namespace Go.Proofs.YtfnlgfacadmjpaaGreatDoor
open Go.RowKit

/-- What the reference's Parse leaves. -/
def RfO (s : List UInt8) (near : Int) (w : World) (e : Ending) (w' : World) : Prop :=
  (∃ (k : Int) (nm : List UInt8) (t F A B C : Int) (L : List El.Elt.R) (u : Value), Psf s near k nm t F A B C L ∧ e = .returned (.tuple #[repV k (S nm) t F A B C u, .int .i64 0]) ∧ El.RdIn w' u L ∧ Below w.heap.size w w' ∧ ∀ i, u.ownBlock = some i → w.heap.size ≤ i) ∨
  ((∀ k nm t F A B C L, ¬ Psf s near k nm t F A B C L) ∧ e = .returned (.tuple #[repV 0 ⟨#[]⟩ 0 0 0 0 0 (.slice none 0 0), .int .i64 3]) ∧ Below w.heap.size w w')
theorem refWord_fromQ (k : Int) (w0 w : World) (hk : 1 ≤ k ∧ k ≤ 3) (hb : Below w0.heap.size w0 w) :
    Calls Tryz.prog 71 #[.int .i64 k] w fun e w' => e = .returned (.string (S (kw k))) ∧ Below w0.heap.size w0 w' :=
  (refWord_any k w hk).mono fun _ _ ⟨he, hg⟩ => ⟨he, hb.trans (hg.mono hb.size)⟩
theorem row_baseQ {W : World} {base size n : Nat} {e : TypeId} {v : Value} {xs : List Value} (h : W.ownsRow base e size v n xs) {i : Nat} (hi : v.ownBlock = some i) : base ≤ i := by
  rcases h.2 with ⟨rfl, -⟩ | ⟨g, cap, cur, rfl, hb, hg, -⟩
  · cases hi
  · cases hi; exact hb
/-- The kind that a word names, 0 if none. -/
noncomputable def kof (x : List UInt8) : Int := if x = kw 1 then 1 else if x = kw 2 then 2 else if x = kw 3 then 3 else 0
theorem kof_kw {k : Int} (h : 1 ≤ k ∧ k ≤ 3) : kof (kw k) = k := by
  rcases kind_cases h with rfl | rfl | rfl <;> decide
theorem kof_eq (x : List UInt8) (k : Int) (h : 1 ≤ k ∧ k ≤ 3) : ((S x).toList == (S (kw k)).toList) = decide (k = kof x) := by
  by_cases e : x = kw k
  · subst e
    rw [kof_kw h, decide_eq_true rfl]
    exact beq_self_eq_true _
  · rw [toList_ne (fun e2 => e (S_inj e2))]
    symm
    apply decide_eq_false
    intro e2
    unfold kof at e2
    split at e2
    · rename_i h1; subst h1; rcases kind_cases h with rfl | rfl | rfl <;> first | exact e rfl | omega
    · split at e2
      · rename_i _ h1; subst h1; rcases kind_cases h with rfl | rfl | rfl <;> first | exact e rfl | omega
      · split at e2
        · rename_i _ _ h1; subst h1; rcases kind_cases h with rfl | rfl | rfl <;> first | exact e rfl | omega
        · omega
theorem kof_rng (x : List UInt8) : 0 ≤ kof x ∧ kof x ≤ 3 := by unfold kof; repeat' split <;> omega
theorem kof_back {x : List UInt8} (h : kof x ≠ 0) : (1 ≤ kof x ∧ kof x ≤ 3) ∧ x = kw (kof x) := by
  unfold kof at h ⊢
  split
  · rename_i e; exact ⟨by omega, e⟩
  · split
    · rename_i e; exact ⟨by omega, e⟩
    · split
      · rename_i e; exact ⟨by omega, e⟩
      · rename_i h1 h2 h3; rw [if_neg h1, if_neg h2, if_neg h3] at h; exact absurd rfl h
theorem grown_put {a b : World} {g : Nat} (h : a.grownBy b (some g)) (j : Nat) (x : Value) : a.grownBy (b.setCell ⟨g, j, none⟩ x) (some g) :=
  ⟨h.os, h.tape, h.output, Nat.le_trans h.size (by simp [World.setCell]), fun i hi hne => (Below.heap_setCell b ⟨g, j, none⟩ x i (fun e => hne (by rw [e]))).trans (h.block i hi hne)⟩
theorem set4_far_at {w : World} {g x : Nat} {t : TypeId} {cs : Array Value} {u0 u1 u2 u3 : Value} (h : Row w x t cs) (hx : g ≠ x) :
    Row ((((w.setCell ⟨g, 3, none⟩ u0).setCell ⟨g, 4, none⟩ u1).setCell ⟨g, 5, none⟩ u2).setCell ⟨g, 6, none⟩ u3) x t cs :=
  (((h.far (p := ⟨g, 3, none⟩) hx u0).far (p := ⟨g, 4, none⟩) hx u1).far (p := ⟨g, 5, none⟩) hx u2).far (p := ⟨g, 6, none⟩) hx u3
theorem put4 {w : World} {gr : Nat} {k : Int} {nm : ByteArray} {t F0 A0 B0 C0 : Int} {u : Value} (h : Row w gr 53 (repC k nm t F0 A0 B0 C0 u)) (F A B C : Int) :
    Row ((((w.setCell ⟨gr, 3, none⟩ (.int .i64 F)).setCell ⟨gr, 4, none⟩ (.int .i64 A)).setCell ⟨gr, 5, none⟩ (.int .i64 B)).setCell ⟨gr, 6, none⟩ (.int .i64 C)) gr 53 (repC k nm t F A B C u) := by
  have r1 : Row (w.setCell ⟨gr, 3, none⟩ (.int .i64 F)) gr 53 (repC k nm t F A0 B0 C0 u) := h.put 3 _
  have r2 : Row ((w.setCell ⟨gr, 3, none⟩ (.int .i64 F)).setCell ⟨gr, 4, none⟩ (.int .i64 A)) gr 53 (repC k nm t F A B0 C0 u) := r1.put 4 _
  have r3 : Row (((w.setCell ⟨gr, 3, none⟩ (.int .i64 F)).setCell ⟨gr, 4, none⟩ (.int .i64 A)).setCell ⟨gr, 5, none⟩ (.int .i64 B)) gr 53 (repC k nm t F A B C0 u) := r2.put 5 _
  exact r3.put 6 _
theorem grown_own {a b c : World} {g n size : Nat} {e : TypeId} {v : Value} {xs : List Value} (h : a.grownBy b (some g)) (ho : b.ownsRow a.heap.size e size v n xs) (k : b.grownBy c v.ownBlock) : a.grownBy c (some g) :=
  ⟨k.os.trans h.os, k.tape.trans h.tape, k.output.trans h.output, Nat.le_trans h.size k.size, fun i hi hne => (k.block i (Nat.lt_of_lt_of_le hi h.size) (fun e => by have := (ho.lt i e.symm).1; omega)).trans (h.block i hi hne)⟩
set_option maxRecDepth 100000 in
set_option maxHeartbeats 16000000 in
theorem refParse_any (s : List UInt8) (near : Int) (w : World) (hn : 0 ≤ near ∧ near ≤ 52595999) (hs : s.length ≤ 100000) :
    Calls Tryz.prog 57 #[.string (S s), .int .i64 near] w (RfO s near w) := by
  obtain ⟨i0, hi, hz0, hz1, hz2⟩ := info_parts El.infoReading
  have HWo := Lib.hid (fun W => refWords_any (S s) W (by rw [S_size]; exact hs))
  rw [S_list] at HWo
  have HIN := Lib.hid (fun W => Ck.refIn_any near W)
  have hrn : Ck.Cal.rng near = true := Ck.Cal.rng_yes hn.1 hn.2
  rw [hrn] at HIN
  have HPS := Lib.hid (show ∀ k nm t F A B C L, Psf s near k nm t F A B C L = (Rdd (Wrd.wd s) near k nm t F A B C L ∧ vcode k (S nm) t F A B C L = 0) from fun _ _ _ _ _ _ _ _ => rfl)
  have HPO : Hid (∀ e w', RfO s near w e w' = ((∃ (k : Int) (nm : List UInt8) (t F A B C : Int) (L : List El.Elt.R) (u : Value), Psf s near k nm t F A B C L ∧ e = .returned (.tuple #[repV k (S nm) t F A B C u, .int .i64 0]) ∧ El.RdIn w' u L ∧ Below w.heap.size w w' ∧ ∀ i, u.ownBlock = some i → w.heap.size ≤ i) ∨
    ((∀ k nm t F A B C L, ¬ Psf s near k nm t F A B C L) ∧ e = .returned (.tuple #[repV 0 ⟨#[]⟩ 0 0 0 0 0 (.slice none 0 0), .int .i64 3]) ∧ Below w.heap.size w w'))) := Lib.hid (fun _ _ => rfl)
  have hwl := Lib.hid (wd_lens s)
  have hwc := wd_count s
  have hwn := Wrd.wd_ne s
  generalize hq : RfO s near w = QQ at *
  generalize Psf s near = PP at *
  generalize Wrd.wd s = ws at *
  generalize S s = sv at *
  clear hq hrn hn
  have b4 := (Below.refl w.heap.size w).alloc (Nat.le_refl _) (.cells (repC 0 ⟨#[]⟩ 0 0 0 0 0 (.slice none 0 0)) 53)
  have r4 := Row.new w (repC 0 ⟨#[]⟩ 0 0 0 0 0 (.slice none 0 0)) 53
  go_enter Tryz.func57, Tryz.ntmps57
  go_wp2_with fail
  generalize w.alloc (.cells (repC 0 ⟨#[]⟩ 0 0 0 0 0 (.slice none 0 0)) 53) = W0 at *
  refine (HIN.out _).mono ?_
  rintro e w1 ⟨rfl, rfl⟩
  go_wp2_with fail
  refine (HWo.out _).mono ?_
  rintro e w1 ⟨v, rfl, hW⟩
  have b5 := b4.trans (hW.below.mono b4.size)
  have r5 := r4.under hW.below
  have hpos : 0 < ws.length := List.length_pos_iff.2 hwn
  obtain ⟨g, cap, rfl, hBg, hg, hc, hcm, hcell⟩ := Pl.own_open hW.own hpos
  have key := Lib.hid (show ∀ i (h : i < ws.length), w1.cell? ⟨g, i, none⟩ = some (.string (S ws[i])) from fun i hi => hcell i _ (by rw [List.getElem?_map, List.getElem?_eq_getElem hi]; rfl))
  have HNS0 := Lib.hid hwl.out
  have hmx : (maxLen : Nat) ≤ 9223372036854775807 := by unfold maxLen; omega
  clear hW hcell hwn hpos
  by_cases h3 : ws.length < 3
  · have HNO := Lib.hid (show ∀ k nm t F A B C L, ¬ PP k nm t F A B C L from fun k nm t F A B C L h => by
      rw [HPS.out] at h
      obtain ⟨⟨st, rest, rs, e, _⟩, _⟩ := h
      rw [e] at h3; simp at h3; omega)
    have n1 : (ws.length : Int) < 3 := by omega
    clear h3 r4 b4
    go_upto_region 4 with fail
    have f0 := r5.thaw 0
    have f1 := r5.thaw 1
    have f2 := r5.thaw 2
    have f3 := r5.thaw 3
    have f4 := r5.thaw 4
    have f5 := r5.thaw 5
    have f6 := r5.thaw 6
    have f7 := r5.thaw 7
    obtain ⟨q0, q1, q2, q3, q4, q5, q6, q7⟩ := row8 r5
    have HZ := Lib.hid (set8_row (.int .i64 0) (.string ⟨#[]⟩) (.int .i64 0) (.int .i64 0) (.int .i64 0) (.int .i64 0) (.int .i64 0) (.slice none 0 0) r5)
    have HF := Lib.hid (set8_below (u0 := .int .i64 0) (u1 := .string ⟨#[]⟩) (u2 := .int .i64 0) (u3 := .int .i64 0) (u4 := .int .i64 0) (u5 := .int .i64 0) (u6 := .int .i64 0) (u7 := .slice none 0 0) b5 (Nat.le_refl _))
    clear r5 b5
    go_wp2_with fail
    clear f0 f1 f2 f3 f4 f5 f6 f7 q0 q1 q2 q3 q4 q5 q6 q7
    exact bodyPost_ret (v := .tuple #[repV 0 ⟨#[]⟩ 0 0 0 0 0 (.slice none 0 0), .int .i64 3]) (by obtain ⟨z0, z1, z2, z3, z4, z5, z6, z7⟩ := row8 HZ.out; simp [results, Tryz.results57, z0, z1, z2, z3, z4, z5, z6, z7, go_sem]) rfl (by rw [HPO.out]; exact .inr ⟨HNO.out, rfl, HF.out⟩)
  obtain ⟨x0, x1, x2, rest, rfl⟩ : ∃ a b c r, ws = a :: b :: c :: r := by
    rcases ws with _ | ⟨a, _ | ⟨b, _ | ⟨c, r⟩⟩⟩
    · exact absurd (by simp) h3
    · exact absurd (by simp) h3
    · exact absurd (by simp) h3
    · exact ⟨a, b, c, r, rfl⟩
  have hlen : (x0 :: x1 :: x2 :: rest).length = rest.length + 3 := by simp
  have C0 := Lib.hid (key.out 0 (by simp))
  have C1 := Lib.hid (key.out 1 (by simp))
  have C2 := Lib.hid (key.out 2 (by simp))
  have HR := Lib.hid (show ∀ i (h : i < rest.length), w1.cell? ⟨g, i + 3, none⟩ = some (.string (S rest[i])) from fun i hi => key.out (i + 3) (by simp; omega))
  have HNS := Lib.hid (show (S x1).size ≤ 9223372036854775806 by have := hwl.out x1 (by simp); rw [S_size]; omega)
  have hsr := Lib.hid (show ∀ y ∈ rest, y.length ≤ 100000 from fun y hy => Nat.le_trans (hwl.out y (by simp [hy])) hs)
  rw [hlen] at hc hwc ⊢
  clear h3 hlen key hwl b4 r4
  have n1 : ¬ ((rest.length : Int) + 3 < 3) := by omega
  have n2 : (3 : Int) ≤ (rest.length : Int) + 3 := by omega
  have n3 : (rest.length : Int) + 3 ≤ (cap : Int) := by omega
  have n6 : ((rest.length : Int) + 3 - 3).toNat = rest.length := by omega
  have n7 : (1 : Int) < (rest.length : Int) + 3 := by omega
  have n8 : (0 : Int) < (rest.length : Int) + 3 := by omega
  have n9 : (2 : Int) < (rest.length : Int) + 3 := by omega
  have xw0 : IntKind.i64.wrap 0 = 0 := by decide
  have xw1 : IntKind.i64.wrap 1 = 1 := by decide
  have xw2 : IntKind.i64.wrap 2 = 2 := by decide
  have c0 : w1.cell? ⟨g, 0, none⟩ = some (.string (S x0)) := C0.out
  have c1 : w1.cell? ⟨g, 1, none⟩ = some (.string (S x1)) := C1.out
  obtain ⟨kx, hkx⟩ : ∃ k, kof x0 = k := ⟨_, rfl⟩
  have HKX := Lib.hid hkx
  have KE := Lib.hid (fun k h => kof_eq x0 k h)
  rw [hkx] at KE
  have hkr := kof_rng x0
  rw [hkx] at hkr
  clear hkx
  have bA := (Below.refl w1.heap.size w1).alloc (Nat.le_refl _) (.cells (repC 0 (S x1) 0 0 0 0 0 (.slice none 0 0)) 53)
  have RA := Row.new w1 (repC 0 (S x1) 0 0 0 0 0 (.slice none 0 0)) 53
  go_upto_region 7 with fail
  have B6 := Lib.hid (b5.trans (bA.mono b5.size))
  have R6 := Lib.hid (r5.under bA)
  have RR := Lib.hid RA
  have hgr : w.heap.size < w1.heap.size := r5.lt
  have hgg : g < w1.heap.size := hg
  have BA := Lib.hid bA
  clear b5 r5 bA RA c0 c1
  generalize hwr : w1.alloc (.cells (repC 0 (S x1) 0 0 0 0 0 (.slice none 0 0)) 53) = W1 at *
  obtain ⟨gr, hgre⟩ : ∃ x, w1.heap.size = x := ⟨_, rfl⟩
  rw [hgre] at RR hgr hgg ⊢
  have D0 := Lib.hid ((BA.out.cell (p := ⟨g, 0, none⟩) hg).trans C0.out)
  have D2 := Lib.hid ((BA.out.cell (p := ⟨g, 2, none⟩) hg).trans C2.out)
  have DR := Lib.hid (show ∀ i (h : i < rest.length), W1.cell? ⟨g, i + 3, none⟩ = some (.string (S rest[i])) from fun i hi => (BA.out.cell (p := ⟨g, i + 3, none⟩) hg).trans (HR.out i hi))
  have hgW : g < W1.heap.size := Nat.lt_of_lt_of_le hg BA.out.size
  clear hwr C0 C1 C2 HR BA hg hBg
  go_wp2_with fail
  go_loopw [8] (fun t wr => ∃ k : Int, (1 ≤ k ∧ k ≤ 4) ∧ t = .int .i64 k ∧ Below w.heap.size w wr ∧ W1.grownBy wr (some gr) ∧ Row wr w.heap.size 53 (repC 0 ⟨#[]⟩ 0 0 0 0 0 (.slice none 0 0)) ∧ Row wr gr 53 (repC (if kx < k then kx else 0) (S x1) 0 0 0 0 0 (.slice none 0 0))) (fun t _ => (4 - intOf t).toNat)
  case atStart => exact ⟨1, by omega, rfl, B6.out, grown_refl _ _, R6.out, by rw [show (if kx < 1 then kx else 0) = 0 by split <;> omega]; exact RR.out⟩
  case round =>
    clear B6 R6 RR
    obtain ⟨k, hk, rfl, hB, hG, hZ, hRr⟩ := hrel
    have HB := Lib.hid hB
    have HG := Lib.hid hG
    have HZr := Lib.hid hZ
    have HRr := Lib.hid hRr
    clear hB hG hZ hRr
    have hgwr : g < wr.heap.size := Nat.lt_of_lt_of_le hgW HG.out.size
    have hgne : some g ≠ some gr := fun e => by injection e with e; omega
    by_cases hk4 : k = 4
    · subst hk4
      have q1 : ¬ ((4 : Int) ≤ 3) := by omega
      have d2 := (World.cell?_of_block (HG.out.block g hgW hgne)).trans D2.out
      have HRS := Lib.hid (fun W => refRes_any x2 near W)
      rw [show (if kx < 4 then kx else 0) = kx by rw [if_pos (by omega)]] at HRr
      go_wp2_with fail
      refine (HRS.out _).mono ?_
      rintro e w3 ⟨hst, g3⟩
      have BB := Lib.hid (HB.out.trans (g3.mono HB.out.size))
      have GG := Lib.hid (grown_trans HG.out (grown_below g3))
      have ZZ := Lib.hid (HZr.out.under g3)
      have RR := Lib.hid (HRr.out.under g3)
      have hg3 := Nat.lt_of_lt_of_le hgwr g3.size
      clear g3 HB HG HZr HRr d2 hgwr
      obtain ⟨a, r1, hst2, rfl⟩ : ∃ a r1 : Int, ((r1 = 0 ∧ Stm x2 near a) ∨ (r1 ≠ 0 ∧ ∀ a, ¬ Stm x2 near a)) ∧ e = .returned (.tuple #[.int .i64 a, .int .i64 r1]) := by
        rcases hst with ⟨a, h, rfl⟩ | ⟨h, r, hr, rfl⟩
        · exact ⟨a, 0, .inl ⟨rfl, h⟩, rfl⟩
        · exact ⟨0, r, .inr ⟨hr, h⟩, rfl⟩
      have HST := Lib.hid hst2
      clear hst hst2
      obtain ⟨p0, p1, p2, p3, p4, p5, p6, p7⟩ := row8 RR.out
      have f2 := RR.out.thaw 2
      have B8 := Lib.hid (BB.out.setCell (p := ⟨gr, 2, none⟩) (Nat.le_of_lt hgr) (.int .i64 a))
      have G8 := Lib.hid (grown_put GG.out 2 (.int .i64 a))
      have Z8 := Lib.hid (ZZ.out.far (p := ⟨gr, 2, none⟩) (Nat.ne_of_gt hgr) (.int .i64 a))
      have R8 : Hid (Row (w3.setCell ⟨gr, 2, none⟩ (.int .i64 a)) gr 53 (repC kx (S x1) a 0 0 0 0 (.slice none 0 0))) := Lib.hid (RR.out.put 2 _)
      go_upto_region 14 with fail
      clear p0 p1 p2 p3 p4 p5 p6 p7 f2 BB GG ZZ RR
      generalize w3.setCell ⟨gr, 2, none⟩ (.int .i64 a) = w4 at *
      have D4 := Lib.hid (show ∀ i (h : i < rest.length), w4.cell? ⟨g, i + 3, none⟩ = some (.string (S rest[i])) from fun i hi => (World.cell?_of_block (G8.out.block g hgW hgne)).trans (DR.out i hi))
      have hg4 : g < w4.heap.size := Nat.lt_of_lt_of_le hgW G8.out.size
      go_cut [11] from 53 to 54 (fun p X => (∃ o c : Nat, p = .slice (some ⟨g, o, none⟩) rest.length c ∧ rest.length ≤ c ∧ c ≤ 9223372036854775807 ∧ ∀ i (h : i < rest.length), w4.cell? ⟨g, o + i, none⟩ = some (.string (S rest[i]))) ∧ X = w4)
      case first =>
        by_cases hc3 : cap = 3
        · have n5 : cap - 3 = 0 := by omega
          have hr0 : rest.length = 0 := by omega
          have HR0 := Lib.hid hr0
          clear hc3 hr0
          go_wp2_with fail
          go_meet
          exact ⟨⟨0, 0, rfl, by have := HR0.out; omega, by omega, fun i hi => absurd hi (by have := HR0.out; omega)⟩, rfl⟩
        · have n5 : ¬ (cap - 3 = 0) := by omega
          go_wp2_with fail
          go_meet
          exact ⟨⟨3, cap - 3, rfl, by omega, by omega, fun i hi => by rw [Nat.add_comm]; exact D4.out i hi⟩, rfl⟩
      case rest =>
      obtain ⟨⟨o, c, hp, hoc, hcc, hcs⟩, hX⟩ := hcut
      subst hp
      subst hX
      have HCS := Lib.hid hcs
      clear hcs D4 D2 DR D0
      have hsea0 : True := trivial
      obtain ⟨p0, p1, p2, p3, p4, p5, p6, p7⟩ := row8 R8.out
      by_cases hsea : kx = 2 ∨ kx = 3
      · go_upto_region 15 with fail
        go_cut [62] from 55 to 62 (fun p X => p = .bool true ∧ X = wc)
        case first =>
          rcases hsea with h2 | h2
          · have s2 : (kx == 2) = true := beq_iff_eq.2 h2
            clear h2
            go_wp2_with fail
            go_meet
            exact ⟨rfl, rfl⟩
          · have s2 : (kx == 2) = false := beq_eq_false_iff_ne.2 (by omega)
            have s3 : (kx == 3) = true := beq_iff_eq.2 h2
            clear h2
            go_wp2_with fail
            go_meet
            exact ⟨rfl, rfl⟩
        case rest =>
        obtain ⟨hp, hX⟩ := hcut
        subst hp
        subst hX
        clear p0 p1 p2 p3 p4 p5 p6 p7
        by_cases hr0 : rest.length = 0
        · have HNO := Lib.hid (show ∀ k nm t F A B C L, ¬ PP k nm t F A B C L from fun k' nm t F' A' B' C' L h => by
            rw [HPS.out] at h
            obtain ⟨⟨st, rest', rs', e, hk', _, hp, _⟩, _⟩ := h
            injection e with e1 e2
            injection e2 with e2 e3
            injection e3 with e3 e4
            subst e4
            obtain rfl : k' = kx := by rw [← HKX.out, e1, kof_kw hk']
            rcases hp with ⟨h1, -⟩ | ⟨-, y, h1, -⟩
            · omega
            · rw [h1] at hr0; simp at hr0)
          have q0 : ((rest.length : Int) == 0) = true := by rw [hr0]; rfl
          have ZE := Z8.out
          have BE := B8.out
          clear hr0
          go_upto_region 16 with fail
          have f0 := ZE.thaw 0
          have f1 := ZE.thaw 1
          have f2 := ZE.thaw 2
          have f3 := ZE.thaw 3
          have f4 := ZE.thaw 4
          have f5 := ZE.thaw 5
          have f6 := ZE.thaw 6
          have f7 := ZE.thaw 7
          obtain ⟨q0, q1, q2, q3, q4, q5, q6, q7⟩ := row8 ZE
          have HZ := Lib.hid (set8_row (.int .i64 0) (.string ⟨#[]⟩) (.int .i64 0) (.int .i64 0) (.int .i64 0) (.int .i64 0) (.int .i64 0) (.slice none 0 0) ZE)
          have HF := Lib.hid (set8_below (u0 := .int .i64 0) (u1 := .string ⟨#[]⟩) (u2 := .int .i64 0) (u3 := .int .i64 0) (u4 := .int .i64 0) (u5 := .int .i64 0) (u6 := .int .i64 0) (u7 := .slice none 0 0) BE (Nat.le_refl _))
          clear ZE BE
          go_wp2_with fail
          clear f0 f1 f2 f3 f4 f5 f6 f7 q0 q1 q2 q3 q4 q5 q6 q7
          exact bodyPost_ret (v := .tuple #[repV 0 ⟨#[]⟩ 0 0 0 0 0 (.slice none 0 0), .int .i64 3]) (by obtain ⟨z0, z1, z2, z3, z4, z5, z6, z7⟩ := row8 HZ.out; simp [results, Tryz.results57, z0, z1, z2, z3, z4, z5, z6, z7, go_sem]) rfl (by rw [HPO.out]; exact .inr ⟨HNO.out, rfl, HF.out⟩)
        · obtain ⟨x, rs, rfl⟩ : ∃ x rs, rest = x :: rs := by
            cases rest with
            | nil => exact absurd rfl hr0
            | cons x rs => exact ⟨x, rs, rfl⟩
          clear hr0
          have c9 : wc.cell? ⟨g, o, none⟩ = some (.string (S x)) := HCS.out 0 (by simp)
          have hoc' : rs.length + 1 ≤ c := by simpa using hoc
          have m0 : ¬ ((rs.length : Int) + 1 = 0) := by omega
          have m1 : (1 : Int) ≤ (rs.length : Int) + 1 := by omega
          have m2 : (rs.length : Int) + 1 ≤ (c : Int) := by omega
          have m3 : (0 : Int) < (rs.length : Int) + 1 := by omega
          have m4 : ((rs.length : Int) + 1 - 1).toNat = rs.length := by omega
          obtain ⟨F, A, B, C, rp, hpp⟩ : ∃ F A B C rp : Int, pP x = (F, A, B, C, rp) := ⟨_, _, _, _, _, rfl⟩
          have HPP := Lib.hid (fun W => pP_ref x W)
          rw [hpp] at HPP
          have HPE := Lib.hid hpp
          have HSX := Lib.hid (show ∀ y ∈ rs, y.length ≤ 100000 from fun y hy => hsr.out y (by simp [hy]))
          have HCX := Lib.hid (show ∀ i (h : i < rs.length), wc.cell? ⟨g, o + (i + 1), none⟩ = some (.string (S rs[i])) from fun i hi => HCS.out (i + 1) (by simp; omega))
          have hwc2 : rs.length ≤ 100000 := by simp at hwc; omega
          clear hpp
          go_wp2_with fail
          refine (HPP.out _).mono ?_
          rintro e w5 ⟨rfl, g5⟩
          have ba := (Below.refl w5.heap.size w5).alloc (Nat.le_refl _) (.cells #[.int .i64 F, .int .i64 A, .int .i64 B, .int .i64 C] 50)
          have bb := g5.trans (ba.mono g5.size)
          have BE := B8.out.trans (bb.mono B8.out.size)
          have GE := grown_trans G8.out (grown_below bb)
          have ZE := Z8.out.under bb
          have RE := R8.out.under bb
          have PE := Row.new w5 #[.int .i64 F, .int .i64 A, .int .i64 B, .int .i64 C] 50
          have HCE := Lib.hid (show ∀ i (h : i < rs.length), (w5.alloc (.cells #[.int .i64 F, .int .i64 A, .int .i64 B, .int .i64 C] 50)).cell? ⟨g, o + (i + 1), none⟩ = some (.string (S rs[i])) from fun i hi => (bb.cell (p := ⟨g, o + (i + 1), none⟩) hg4).trans (HCX.out i hi))
          have hgE := Nat.lt_of_lt_of_le hg4 bb.size
          have hpg : gr ≠ w5.heap.size := Nat.ne_of_lt (Nat.lt_of_lt_of_le R8.out.lt g5.size)
          clear ba bb g5 c9
          by_cases hrp : rp = 0
          · subst hrp
            go_upto_region 21 with fail
            generalize w5.alloc (.cells #[.int .i64 F, .int .i64 A, .int .i64 B, .int .i64 C] 50) = wE at *
            generalize w5.heap.size = gp at *
            have PEH := Lib.hid PE
            have DDH := Lib.hid (show wE.grownBy ((((wE.setCell ⟨gr, 3, none⟩ (.int .i64 F)).setCell ⟨gr, 4, none⟩ (.int .i64 A)).setCell ⟨gr, 5, none⟩ (.int .i64 B)).setCell ⟨gr, 6, none⟩ (.int .i64 C)) (some gr) ∧ (∀ p : Addr, p.block = g → ((((wE.setCell ⟨gr, 3, none⟩ (.int .i64 F)).setCell ⟨gr, 4, none⟩ (.int .i64 A)).setCell ⟨gr, 5, none⟩ (.int .i64 B)).setCell ⟨gr, 6, none⟩ (.int .i64 C)).cell? p = wE.cell? p) ∧ Below w.heap.size w ((((wE.setCell ⟨gr, 3, none⟩ (.int .i64 F)).setCell ⟨gr, 4, none⟩ (.int .i64 A)).setCell ⟨gr, 5, none⟩ (.int .i64 B)).setCell ⟨gr, 6, none⟩ (.int .i64 C)) ∧ Row ((((wE.setCell ⟨gr, 3, none⟩ (.int .i64 F)).setCell ⟨gr, 4, none⟩ (.int .i64 A)).setCell ⟨gr, 5, none⟩ (.int .i64 B)).setCell ⟨gr, 6, none⟩ (.int .i64 C)) w.heap.size 53 (repC 0 ⟨#[]⟩ 0 0 0 0 0 (.slice none 0 0)) ∧ Row ((((wE.setCell ⟨gr, 3, none⟩ (.int .i64 F)).setCell ⟨gr, 4, none⟩ (.int .i64 A)).setCell ⟨gr, 5, none⟩ (.int .i64 B)).setCell ⟨gr, 6, none⟩ (.int .i64 C)) gr 53 (repC kx (S x1) a F A B C (.slice none 0 0)) from by
              have hgg := grown_put (grown_put (grown_put (grown_put (grown_refl wE (some gr)) 3 (.int .i64 F)) 4 (.int .i64 A)) 5 (.int .i64 B)) 6 (.int .i64 C)
              have hle := Nat.le_of_lt hgr
              exact ⟨hgg, fun p hp => World.cell?_of_block (hgg.block p.block (by rw [hp]; exact hgE) (by rw [hp]; exact hgne)), (((BE.setCell (p := ⟨gr, 3, none⟩) hle _).setCell (p := ⟨gr, 4, none⟩) hle _).setCell (p := ⟨gr, 5, none⟩) hle _).setCell (p := ⟨gr, 6, none⟩) hle _, set4_far_at ZE (Nat.ne_of_gt hgr), put4 RE F A B C⟩)
            have m5 : (1 : Int) ≤ (c : Int) := by omega
            by_cases hc1 : c - 1 = 0
            · refine wp_region_held_drew (S := fun w' : World => w'.cell? ⟨gp, 0, none⟩ = some (.int .i64 F) ∧ w'.cell? ⟨gp, 1, none⟩ = some (.int .i64 A) ∧ w'.cell? ⟨gp, 2, none⟩ = some (.int .i64 B) ∧ w'.cell? ⟨gp, 3, none⟩ = some (.int .i64 C)) (by kernel_rfl) (row4 PE) (fun hHeld => ?_)
              have f3 := RE.thaw 3
              have f4 := RE.thaw 4
              have f5 := RE.thaw 5
              have f6 := RE.thaw 6
              obtain ⟨q0, q1, q2, q3, q4, q5, q6, q7⟩ := row8 RE
              refine wpAnyH_take (i := 0) (v := ?_) rfl (by kernel_rfl) (by kernel_rfl) (by kernel_rfl) (fun _ _ _ h => h) (Or.inl ⟨by rfl, ?_⟩) (by assumption) ?_
              case refine_2 => (intro wx hSx; (try dsimp only at hSx); go_simp; first | done | with_reducible rfl)
              try simp only [Act.put, List.setIfInBounds_toArray]
              refine wpAnyH_take (i := 1) (v := ?_) rfl (by kernel_rfl) (by kernel_rfl) (by kernel_rfl) (fun _ _ _ h => h) (Or.inl ⟨by rfl, ?_⟩) (by assumption) ?_
              case refine_2 => (intro wx hSx; (try dsimp only at hSx); go_simp; first | done | with_reducible rfl)
              try simp only [Act.put]
              refine wpAnyH_take (i := 2) (v := ?_) rfl (by kernel_rfl) (by kernel_rfl) (by kernel_rfl) (fun _ _ _ h => h) (Or.inl ⟨by rfl, ?_⟩) (by assumption) ?_
              case refine_2 => (intro wx hSx; (try dsimp only at hSx); go_simp; first | done | with_reducible rfl)
              try simp only [Act.put]
              refine wpAnyH_take (i := 3) (v := ?_) rfl (by kernel_rfl) (by kernel_rfl) (by kernel_rfl) (fun _ _ _ h => h) (Or.inl ⟨by rfl, ?_⟩) (by assumption) ?_
              case refine_2 => (intro wx hSx; (try dsimp only at hSx); go_simp; first | done | with_reducible rfl)
              try simp only [Act.put]
              refine wpAnyH_ready (rs := [4]) (by kernel_rfl) (by simp) ?_
              refine AllReadyH.cons (o := ⟨none, _, _, _, _, none⟩) rfl (fun K hK => ?_) AllReadyH.nil
              go_simp
              refine hK.out _ _ (row4 (set4_far_at PEH.out.drew hpg)) (fun hHeld2 => ?_)
              clear hK K hHeld
              try simp only [Act.put, List.setIfInBounds_toArray, List.set_cons_zero, List.set_cons_succ]
              refine wpAnyH_take (i := 5) (oi := ⟨some 11, _, _, _, _, none⟩) (v := ?_) rfl (by kernel_rfl) (by kernel_rfl) (by kernel_rfl) (fun _ _ _ h => h) (Or.inl ⟨by rfl, ?_⟩) (by assumption) ?_
              case refine_2 => (intro wx hSx; (try dsimp only at hSx); go_simp; first | done | with_reducible rfl)
              try simp only [Act.put, List.setIfInBounds_toArray, List.set_cons_zero, List.set_cons_succ]
              refine wpAnyH_done (by kernel_rfl) ?_ _
              clear f3 f4 f5 f6 q0 q1 q2 q3 q4 q5 q6 q7 hHeld2
              go_upto_region 22 with fail
              refine forget (fun X => Below w.heap.size w X ∧ g < X.heap.size ∧ Row X w.heap.size 53 (repC 0 ⟨#[]⟩ 0 0 0 0 0 (.slice none 0 0)) ∧ Row X gr 53 (repC kx (S x1) a F A B C (.slice none 0 0)) ∧ ∀ i (h : i < rs.length), X.cell? ⟨g, o + i, none⟩ = some (.string (S rs[i]))) ⟨DDH.out.2.2.1.drew, Nat.lt_of_lt_of_le hgE DDH.out.1.size, DDH.out.2.2.2.1.drew, DDH.out.2.2.2.2.drew, fun i hi => absurd hi (by omega)⟩ ?_
              rintro wT ⟨hBX, hgT, hZX, hRX, hcs2⟩
              have HPX := Lib.hid (show kx ≠ 0 → Plx kx (x :: rs) F A B C rs from fun _ => .inr ⟨by omega, x, rfl, HPE.out⟩)
              have BT := Lib.hid hBX
              have ZT := Lib.hid hZX
              have RT := Lib.hid hRX
              have CS := Lib.hid hcs2
              have HSZ := HSX
              clear PE BE GE ZE RE HCE hBX hZX hRX hcs2 DDH PEH hsr HCS HCX
              have hTR := RT.out.lt
              have hTZ := ZT.out.lt
              have hlc : rs.length ≤ 100001 := by omega
              go_wp2_with fail
              go_loopw [14] (fun t wr => ∃ j : Nat, j ≤ rs.length ∧ t = .int .i64 j ∧ (∀ y ∈ rs.take j, (eP y).2.2 = 0) ∧ Below w.heap.size w wr ∧ wT.grownBy wr (some gr) ∧ Row wr w.heap.size 53 (repC 0 ⟨#[]⟩ 0 0 0 0 0 (.slice none 0 0)) ∧ ∃ u, wr.ownsRow wT.heap.size 99 2 u ((rs.take j).map eRd).length (El.rdc ((rs.take j).map eRd)) ∧ Row wr gr 53 (repC kx (S x1) a F A B C u)) (fun t _ => rs.length - (intOf t).toNat)
              case atStart => exact ⟨0, Nat.zero_le _, rfl, fun y hy => by simp at hy, BT.out, grown_refl _ _, ZT.out, _, World.ownsRow_nil _ _ _ _, RT.out⟩
              case round =>
                obtain ⟨j, hj, rfl, hok, hB, hG, hZ, u, hO, hRr⟩ := hrel
                have HB := Lib.hid hB
                have HG := Lib.hid hG
                have HZ2 := Lib.hid hZ
                have HOK := Lib.hid hok
                clear hB hG hZ hok
                obtain ⟨Au, cu, rfl, -⟩ := id (El.RdIn.own hO)
                have HO := Lib.hid hO
                clear hO
                by_cases hlt : j < rs.length
                · exfalso; omega
                · have hje : j = rs.length := by omega
                  have k1 : ¬ ((j : Int) < (rs.length : Int)) := by omega
                  subst hje
                  rw [List.take_length] at HO HOK hRr
                  have HRD := Lib.hid (show ∀ k' nm' t' F' A' B' C' L', Rdd (x0 :: x1 :: x2 :: x :: rs) near k' nm' t' F' A' B' C' L' → r1 = 0 ∧ k' = kx ∧ nm' = x1 ∧ t' = a ∧ F' = F ∧ A' = A ∧ B' = B ∧ C' = C ∧ L' = rs.map eRd from fun k' nm' t' F' A' B' C' L' h => by
                    obtain ⟨st, rest', rs', e, hk', hst', hp, ho, rfl⟩ := h
                    injection e with e1 e2
                    injection e2 with e2 e3
                    injection e3 with e3 e4
                    subst e4; subst e3; subst e2
                    obtain rfl : k' = kx := by rw [← HKX.out, e1, kof_kw hk']
                    have hpx := HPX.out (by omega)
                    obtain ⟨rfl, rfl, rfl, rfl⟩ := hp.val hpx
                    obtain rfl := hp.one hpx
                    rcases HST.out with ⟨h1, h2⟩ | ⟨h1, h2⟩
                    · exact ⟨h1, rfl, rfl, hst'.one h2, rfl, rfl, rfl, rfl, rfl⟩
                    · exact absurd hst' (h2 _))
                  have hmj : (rs.map eRd).length ≤ 100001 := by rw [List.length_map]; omega
                  have HYE := Lib.hid (show r1 = 0 → vcode kx (S x1) a F A B C (rs.map eRd) = 0 → Rdd (x0 :: x1 :: x2 :: x :: rs) near kx x1 a F A B C (rs.map eRd) from fun h1 h2 => by
                    have hV := Vd.of h2
                    have hk0 : kx ≠ 0 := by have := hV.kind; omega
                    have hb := kof_back (x := x0) (by rw [HKX.out]; exact hk0)
                    rw [HKX.out] at hb
                    rcases HST.out with ⟨-, h3⟩ | ⟨h3, -⟩
                    · exact ⟨x2, x :: rs, rs, by rw [hb.2], hb.1, h3, HPX.out hk0, HOK.out, rfl⟩
                    · exact absurd h1 h3)
                  have hML : (rs.map eRd).length = rs.length := List.length_map _
                  generalize rs.map eRd = M at *
                  have HRI := Lib.hid (El.RdIn.own HO.out)
                  have ho1 : ∀ i, (Value.slice Au M.length cu).ownBlock = some i → i ≠ w.heap.size := fun i e => fun e2 => El.own_ne HO.out HZ2.out (by decide) (by rw [e, e2])
                  have HO1 := Lib.hid ho1
                  have HO2 := Lib.hid (show ∀ i, (Value.slice Au M.length cu).ownBlock = some i → w.heap.size ≤ i from fun i e => Nat.le_trans BT.out.size (row_baseQ HO.out e))
                  clear ho1
                  have RR := Lib.hid hRr
                  clear hRr
                  rw [hML] at HRI HO1 HO2 RR
                  have HVV0 := Lib.hid (fun W (h : El.RdIn W (.slice Au M.length cu) M) => refVal_any kx (S x1) a F A B C (.slice Au M.length cu) M W h HNS.out)
                  rw [hML] at HVV0
                  have HML := Lib.hid hML
                  clear hML hmj
                  by_cases hr1 : r1 = 0
                  · have HY2 := Lib.hid (HYE.out hr1)
                    clear HYE
                    subst hr1
                    have HVV := HVV0
                    obtain ⟨vc, hvc⟩ : ∃ z, vcode kx (S x1) a F A B C M = z := ⟨_, rfl⟩
                    rw [hvc] at HVV HY2
                    obtain ⟨p0, p1, p2, p3, p4, p5, p6, p7⟩ := row8 RR.out
                    go_wp2_with fail
                    refine (HVV.out _ HRI.out).mono ?_
                    rintro e w6 ⟨rfl, g6⟩
                    have BB := HB.out.trans (g6.mono HB.out.size)
                    have ZZ := HZ2.out.under g6
                    have HRI2 := Lib.hid (HRI.out.under g6)
                    have R2 := RR.out.under g6
                    clear p0 p1 p2 p3 p4 p5 p6 p7 g6 HVV HO
                    by_cases hv0 : vc = 0
                    · have HYD := HY2.out hv0
                      subst hv0
                      have HYES := Lib.hid (show PP kx x1 a F A B C M by rw [HPS.out]; exact ⟨HYD, hvc⟩)
                      obtain ⟨p0, p1, p2, p3, p4, p5, p6, p7⟩ := row8 R2
                      have f0 := ZZ.thaw 0
                      have f1 := ZZ.thaw 1
                      have f2 := ZZ.thaw 2
                      have f3 := ZZ.thaw 3
                      have f4 := ZZ.thaw 4
                      have f5 := ZZ.thaw 5
                      have f6 := ZZ.thaw 6
                      have f7 := ZZ.thaw 7
                      obtain ⟨q0, q1, q2, q3, q4, q5, q6, q7⟩ := row8 ZZ
                      have HZ9 := Lib.hid (set8_row (.int .i64 kx) (.string (S x1)) (.int .i64 a) (.int .i64 F) (.int .i64 A) (.int .i64 B) (.int .i64 C) (.slice Au rs.length cu) ZZ)
                      have HF9 := Lib.hid (set8_below (u0 := .int .i64 kx) (u1 := .string (S x1)) (u2 := .int .i64 a) (u3 := .int .i64 F) (u4 := .int .i64 A) (u5 := .int .i64 B) (u6 := .int .i64 C) (u7 := .slice Au rs.length cu) BB (Nat.le_refl _))
                      clear ZZ BB R2 hvc HYD HY2
                      go_wp2_with fail
                      clear f0 f1 f2 f3 f4 f5 f6 f7 q0 q1 q2 q3 q4 q5 q6 q7 p0 p1 p2 p3 p4 p5 p6 p7
                      exact bodyPost_ret (v := .tuple #[repV kx (S x1) a F A B C (.slice Au rs.length cu), .int .i64 0]) (by obtain ⟨z0, z1, z2, z3, z4, z5, z6, z7⟩ := row8 HZ9.out; simp [results, Tryz.results57, z0, z1, z2, z3, z4, z5, z6, z7, go_sem]) rfl (by
                        rw [HPO.out]
                        exact .inl ⟨kx, x1, a, _, _, _, _, M, _, HYES.out, rfl, rdIn_set HRI2.out HO1.out _ _ _ _ _ _ _ _, HF9.out, HO2.out⟩)
                    · have q : (vc != 0) = true := by rw [bne_iff_ne]; exact hv0
                      have HNO := Lib.hid (show ∀ k nm t F A B C L, ¬ PP k nm t F A B C L from fun k' nm t F' A' B' C' L h => by
                        rw [HPS.out] at h
                        obtain ⟨-, rfl, rfl, rfl, rfl, rfl, rfl, rfl, rfl⟩ := HRD.out _ _ _ _ _ _ _ _ h.1
                        exact hv0 (hvc.symm.trans h.2))
                      clear hv0 R2 hvc HY2
                      have f0 := ZZ.thaw 0
                      have f1 := ZZ.thaw 1
                      have f2 := ZZ.thaw 2
                      have f3 := ZZ.thaw 3
                      have f4 := ZZ.thaw 4
                      have f5 := ZZ.thaw 5
                      have f6 := ZZ.thaw 6
                      have f7 := ZZ.thaw 7
                      obtain ⟨q0, q1, q2, q3, q4, q5, q6, q7⟩ := row8 ZZ
                      have HZ := Lib.hid (set8_row (.int .i64 0) (.string ⟨#[]⟩) (.int .i64 0) (.int .i64 0) (.int .i64 0) (.int .i64 0) (.int .i64 0) (.slice none 0 0) ZZ)
                      have HF := Lib.hid (set8_below (u0 := .int .i64 0) (u1 := .string ⟨#[]⟩) (u2 := .int .i64 0) (u3 := .int .i64 0) (u4 := .int .i64 0) (u5 := .int .i64 0) (u6 := .int .i64 0) (u7 := .slice none 0 0) BB (Nat.le_refl _))
                      clear ZZ BB
                      go_wp2_with fail
                      clear f0 f1 f2 f3 f4 f5 f6 f7 q0 q1 q2 q3 q4 q5 q6 q7
                      exact bodyPost_ret (v := .tuple #[repV 0 ⟨#[]⟩ 0 0 0 0 0 (.slice none 0 0), .int .i64 3]) (by obtain ⟨z0, z1, z2, z3, z4, z5, z6, z7⟩ := row8 HZ.out; simp [results, Tryz.results57, z0, z1, z2, z3, z4, z5, z6, z7, go_sem]) rfl (by rw [HPO.out]; exact .inr ⟨HNO.out, rfl, HF.out⟩)
                  · have q : (r1 != 0) = true := by rw [bne_iff_ne]; exact hr1
                    have HNO := Lib.hid (show ∀ k nm t F A B C L, ¬ PP k nm t F A B C L from fun k' nm t F' A' B' C' L h => by
                      rw [HPS.out] at h
                      exact hr1 (HRD.out _ _ _ _ _ _ _ _ h.1).1)
                    have ZZ := HZ2.out
                    have BB := HB.out
                    clear hr1 HO RR HVV0 HYE
                    have f0 := ZZ.thaw 0
                    have f1 := ZZ.thaw 1
                    have f2 := ZZ.thaw 2
                    have f3 := ZZ.thaw 3
                    have f4 := ZZ.thaw 4
                    have f5 := ZZ.thaw 5
                    have f6 := ZZ.thaw 6
                    have f7 := ZZ.thaw 7
                    obtain ⟨q0, q1, q2, q3, q4, q5, q6, q7⟩ := row8 ZZ
                    have HZ := Lib.hid (set8_row (.int .i64 0) (.string ⟨#[]⟩) (.int .i64 0) (.int .i64 0) (.int .i64 0) (.int .i64 0) (.int .i64 0) (.slice none 0 0) ZZ)
                    have HF := Lib.hid (set8_below (u0 := .int .i64 0) (u1 := .string ⟨#[]⟩) (u2 := .int .i64 0) (u3 := .int .i64 0) (u4 := .int .i64 0) (u5 := .int .i64 0) (u6 := .int .i64 0) (u7 := .slice none 0 0) BB (Nat.le_refl _))
                    clear ZZ BB
                    go_wp2_with fail
                    clear f0 f1 f2 f3 f4 f5 f6 f7 q0 q1 q2 q3 q4 q5 q6 q7
                    exact bodyPost_ret (v := .tuple #[repV 0 ⟨#[]⟩ 0 0 0 0 0 (.slice none 0 0), .int .i64 3]) (by obtain ⟨z0, z1, z2, z3, z4, z5, z6, z7⟩ := row8 HZ.out; simp [results, Tryz.results57, z0, z1, z2, z3, z4, z5, z6, z7, go_sem]) rfl (by rw [HPO.out]; exact .inr ⟨HNO.out, rfl, HF.out⟩)
            · refine wp_region_held_drew (S := fun w' : World => w'.cell? ⟨gp, 0, none⟩ = some (.int .i64 F) ∧ w'.cell? ⟨gp, 1, none⟩ = some (.int .i64 A) ∧ w'.cell? ⟨gp, 2, none⟩ = some (.int .i64 B) ∧ w'.cell? ⟨gp, 3, none⟩ = some (.int .i64 C)) (by kernel_rfl) (row4 PE) (fun hHeld => ?_)
              have f3 := RE.thaw 3
              have f4 := RE.thaw 4
              have f5 := RE.thaw 5
              have f6 := RE.thaw 6
              obtain ⟨q0, q1, q2, q3, q4, q5, q6, q7⟩ := row8 RE
              refine wpAnyH_take (i := 0) (v := ?_) rfl (by kernel_rfl) (by kernel_rfl) (by kernel_rfl) (fun _ _ _ h => h) (Or.inl ⟨by rfl, ?_⟩) (by assumption) ?_
              case refine_2 => (intro wx hSx; (try dsimp only at hSx); go_simp; first | done | with_reducible rfl)
              try simp only [Act.put, List.setIfInBounds_toArray]
              refine wpAnyH_take (i := 1) (v := ?_) rfl (by kernel_rfl) (by kernel_rfl) (by kernel_rfl) (fun _ _ _ h => h) (Or.inl ⟨by rfl, ?_⟩) (by assumption) ?_
              case refine_2 => (intro wx hSx; (try dsimp only at hSx); go_simp; first | done | with_reducible rfl)
              try simp only [Act.put]
              refine wpAnyH_take (i := 2) (v := ?_) rfl (by kernel_rfl) (by kernel_rfl) (by kernel_rfl) (fun _ _ _ h => h) (Or.inl ⟨by rfl, ?_⟩) (by assumption) ?_
              case refine_2 => (intro wx hSx; (try dsimp only at hSx); go_simp; first | done | with_reducible rfl)
              try simp only [Act.put]
              refine wpAnyH_take (i := 3) (v := ?_) rfl (by kernel_rfl) (by kernel_rfl) (by kernel_rfl) (fun _ _ _ h => h) (Or.inl ⟨by rfl, ?_⟩) (by assumption) ?_
              case refine_2 => (intro wx hSx; (try dsimp only at hSx); go_simp; first | done | with_reducible rfl)
              try simp only [Act.put]
              refine wpAnyH_ready (rs := [4]) (by kernel_rfl) (by simp) ?_
              refine AllReadyH.cons (o := ⟨none, _, _, _, _, none⟩) rfl (fun K hK => ?_) AllReadyH.nil
              go_simp
              refine hK.out _ _ (row4 (set4_far_at PEH.out.drew hpg)) (fun hHeld2 => ?_)
              clear hK K hHeld
              try simp only [Act.put, List.setIfInBounds_toArray, List.set_cons_zero, List.set_cons_succ]
              refine wpAnyH_take (i := 5) (oi := ⟨some 11, _, _, _, _, none⟩) (v := ?_) rfl (by kernel_rfl) (by kernel_rfl) (by kernel_rfl) (fun _ _ _ h => h) (Or.inl ⟨by rfl, ?_⟩) (by assumption) ?_
              case refine_2 => (intro wx hSx; (try dsimp only at hSx); go_simp; first | done | with_reducible rfl)
              try simp only [Act.put, List.setIfInBounds_toArray, List.set_cons_zero, List.set_cons_succ]
              refine wpAnyH_done (by kernel_rfl) ?_ _
              clear f3 f4 f5 f6 q0 q1 q2 q3 q4 q5 q6 q7 hHeld2
              go_upto_region 22 with fail
              refine forget (fun X => Below w.heap.size w X ∧ g < X.heap.size ∧ Row X w.heap.size 53 (repC 0 ⟨#[]⟩ 0 0 0 0 0 (.slice none 0 0)) ∧ Row X gr 53 (repC kx (S x1) a F A B C (.slice none 0 0)) ∧ ∀ i (h : i < rs.length), X.cell? ⟨g, o + 1 + i, none⟩ = some (.string (S rs[i]))) ⟨DDH.out.2.2.1.drew, Nat.lt_of_lt_of_le hgE DDH.out.1.size, DDH.out.2.2.2.1.drew, DDH.out.2.2.2.2.drew, fun i hi => by rw [show o + 1 + i = o + (i + 1) by omega]; exact (DDH.out.2.1 _ rfl).trans (HCE.out i hi)⟩ ?_
              rintro wT ⟨hBX, hgT, hZX, hRX, hcs2⟩
              have HPX := Lib.hid (show kx ≠ 0 → Plx kx (x :: rs) F A B C rs from fun _ => .inr ⟨by omega, x, rfl, HPE.out⟩)
              have BT := Lib.hid hBX
              have ZT := Lib.hid hZX
              have RT := Lib.hid hRX
              have CS := Lib.hid hcs2
              have HSZ := HSX
              clear PE BE GE ZE RE HCE hBX hZX hRX hcs2 DDH PEH hsr HCS HCX
              have hTR := RT.out.lt
              have hTZ := ZT.out.lt
              have hlc : rs.length ≤ 100001 := by omega
              go_wp2_with fail
              go_loopw [14] (fun t wr => ∃ j : Nat, j ≤ rs.length ∧ t = .int .i64 j ∧ (∀ y ∈ rs.take j, (eP y).2.2 = 0) ∧ Below w.heap.size w wr ∧ wT.grownBy wr (some gr) ∧ Row wr w.heap.size 53 (repC 0 ⟨#[]⟩ 0 0 0 0 0 (.slice none 0 0)) ∧ ∃ u, wr.ownsRow wT.heap.size 99 2 u ((rs.take j).map eRd).length (El.rdc ((rs.take j).map eRd)) ∧ Row wr gr 53 (repC kx (S x1) a F A B C u)) (fun t _ => rs.length - (intOf t).toNat)
              case atStart => exact ⟨0, Nat.zero_le _, rfl, fun y hy => by simp at hy, BT.out, grown_refl _ _, ZT.out, _, World.ownsRow_nil _ _ _ _, RT.out⟩
              case round =>
                obtain ⟨j, hj, rfl, hok, hB, hG, hZ, u, hO, hRr⟩ := hrel
                have HB := Lib.hid hB
                have HG := Lib.hid hG
                have HZ2 := Lib.hid hZ
                have HOK := Lib.hid hok
                clear hB hG hZ hok
                obtain ⟨Au, cu, rfl, -⟩ := id (El.RdIn.own hO)
                have HO := Lib.hid hO
                clear hO
                by_cases hlt : j < rs.length
                · have c9 := (World.cell?_of_block (HG.out.block g hgT hgne)).trans (CS.out j hlt)
                  have hsz := HSZ.out _ (List.getElem_mem hlt)
                  have hmem := Lib.hid (List.getElem_mem hlt)
                  have hn := Lib.hid (show rs.take (j + 1) = rs.take j ++ [rs[j]] from List.take_succ_eq_append_getElem hlt)
                  have j0 : (0 : Int) ≤ (j : Int) := by omega
                  have j1 : (j : Int) < (rs.length : Int) := by omega
                  generalize rs[j] = x at *
                  have HP := Lib.hid (fun W => eP_ref x W)
                  have HX := Lib.hid (show eRd x = ((eP x).1, (eP x).2.1) from rfl)
                  obtain ⟨er, her⟩ : ∃ r, (eP x).2.2 = r := ⟨_, rfl⟩
                  rw [her] at HP
                  have HER := Lib.hid her; clear her
                  generalize (eP x).1 = y0 at *
                  generalize (eP x).2.1 = y2 at *
                  generalize S x = tx at *
                  unfold El.rdV at HP
                  clear hsz
                  go_wp2_with fail
                  refine (HP.out _).mono ?_
                  rintro e w6 ⟨rfl, g6⟩
                  try unfold El.rdV
                  have BB := Lib.hid (HB.out.trans (g6.mono HB.out.size))
                  have GG := Lib.hid (grown_trans HG.out (grown_below g6))
                  have ZZ := Lib.hid (HZ2.out.under g6)
                  have OO := Lib.hid (El.own_under HO.out g6)
                  have RR := Lib.hid (hRr.under g6)
                  clear HB HG HZ2 HO hRr g6 c9
                  have hmj : ((rs.take j).map eRd).length ≤ 100001 := by rw [List.length_map, List.length_take]; omega
                  by_cases he : er = 0
                  · subst he
                    have ba := (Below.refl w6.heap.size w6).alloc (Nat.le_refl _) (.cells #[.int .i64 y0, .int .i64 y2] 99)
                    have r6 := Row.new w6 #[.int .i64 y0, .int .i64 y2] 99
                    have hgr6 := RR.out.lt
                    have hq2 : gr < wT.heap.size := hTR
                    generalize hMM : (rs.take j).map eRd = M at *
                    have HMM := Lib.hid hMM; clear hMM
                    have bb := ba.trans (((Below.refl _ _).alloc (Nat.le_refl _) (.cells #[.int .i64 y0, .int .i64 y2] 99)).mono ba.size)
                    have O8 := Lib.hid (El.own_under OO.out bb)
                    have B8' := Lib.hid (BB.out.trans (bb.mono BB.out.size))
                    have G8' := Lib.hid (grown_trans GG.out (grown_below bb))
                    have Z8' := Lib.hid (ZZ.out.under bb)
                    have RR8 := Lib.hid (RR.out.under bb)
                    have hs8 := Nat.le_trans GG.out.size bb.size
                    have RA := RR.out.under ba
                    clear ba bb BB GG ZZ OO RR
                    go_upto_region 28 with fail
                    obtain ⟨d0, d1⟩ := row2 r6
                    have p7 := (row8 RA).2.2.2.2.2.2.2
                    go_wp2_with (at_builtin; go_loud (refine wpList_append_lies _ rfl (.tmp 99) (.tmp 101) 51 rfl wT.heap.size 99 i0 _ 2 16 Tryz.underlying51 hi hz0 hz1 hz2 rfl (by decide) _ M.length (El.rdc M) rfl O8.out ⟨w6.heap.size + 1, 0, none⟩ 1 1 [.int .i64 y0, .int .i64 y2] rfl rfl (World.news_of_block (cs := #[.int .i64 y0, .int .i64 y2]) (t := 99) (fr := (0, 0)) (by have := heap_alloc_new (w6.alloc (.cells #[.int .i64 y0, .int .i64 y2] 99)) (.cells #[.int .i64 y0, .int .i64 y2] 99); simpa using this)) (by simp [Value.oneCell']) (by omega) (by unfold maxLen; omega) (by omega) hs8 (w6.heap.size + 2) (by simp) ?_; intro g' cap' w8 hown8 hgrow8 hat8 hlt8; have RW := RR8.out.grown hgrow8 (El.own_ne O8.out RR8.out (by decide)); have z7 := (row8 RW).2.2.2.2.2.2.2; have f7 := RW.thaw 7; have E9 := Lib.hid (And.intro (El.below_own B8'.out B8'.out.size (own_base O8.out BT.out.size) hgrow8) (And.intro (grown_own G8'.out O8.out hgrow8) (And.intro (Z8'.out.grown hgrow8 (El.own_ne O8.out Z8'.out (by decide))) (And.intro hown8 RW)))); clear hown8 hgrow8 hat8 hlt8 RW))
                    have hneg : some gr ≠ (Value.slice (some ⟨g', 0, none⟩) (M.length + 1) cap').ownBlock := El.own_ne E9.out.2.2.2.1 E9.out.2.2.2.2 (by decide)
                    clear z7 f7 p7 d0 d1 RA r6
                    go_roundw
                    case rel =>
                      refine ⟨j + 1, by omega, by go_num, fun y hy => ?_, E9.out.1.setCell (p := ⟨gr, 7, none⟩) (Nat.le_of_lt hgr) _, grown_put E9.out.2.1 7 _, E9.out.2.2.1.far (p := ⟨gr, 7, none⟩) (Nat.ne_of_gt hgr) _, .slice (some ⟨g', 0, none⟩) (M.length + 1) cap', ?_, E9.out.2.2.2.2.put 7 _⟩
                      · rw [hn.out] at hy
                        rcases List.mem_append.1 hy with hy | hy
                        · exact HOK.out y hy
                        · rw [List.mem_singleton.1 hy]; exact HER.out
                      · rw [hn.out, List.map_append, HMM.out, List.map_cons, List.map_nil, HX.out, El.rdc_snoc, List.length_append]
                        exact own_far E9.out.2.2.2.1 (fun g2 e => Below.heap_setCell w8 ⟨gr, 7, none⟩ _ g2 (fun e2 => hneg (by rw [e]; first | exact congrArg some e2 | exact congrArg some e2.symm)))
                    case measure => simp [intOf]; omega
                  · have q : (er != 0) = true := by rw [bne_iff_ne]; exact he
                    have ba := (Below.refl w6.heap.size w6).alloc (Nat.le_refl _) (.cells #[.int .i64 y0, .int .i64 y2] 99)
                    have BE := BB.out.trans (ba.mono BB.out.size)
                    have ZE := ZZ.out.under ba
                    have HNO := Lib.hid (show ∀ k nm t F A B C L, ¬ PP k nm t F A B C L from fun k' nm t F' A' B' C' L h => by
                      rw [HPS.out] at h
                      obtain ⟨⟨st, rest', rs', e, hk', _, hp, ho, _⟩, _⟩ := h
                      injection e with e1 e2
                      injection e2 with e2 e3
                      injection e3 with e3 e4
                      subst e4
                      obtain rfl : k' = kx := by rw [← HKX.out, e1, kof_kw hk']
                      rw [← (HPX.out (by omega)).one hp] at ho
                      exact he (by rw [← HER.out]; exact ho x hmem.out))
                    clear BB GG ZZ OO RR ba
                    go_upto_region 26 with fail
                    generalize w6.alloc (.cells #[.int .i64 y0, .int .i64 y2] 99) = WE at *
                    have f0 := ZE.thaw 0
                    have f1 := ZE.thaw 1
                    have f2 := ZE.thaw 2
                    have f3 := ZE.thaw 3
                    have f4 := ZE.thaw 4
                    have f5 := ZE.thaw 5
                    have f6 := ZE.thaw 6
                    have f7 := ZE.thaw 7
                    obtain ⟨q0, q1, q2, q3, q4, q5, q6, q7⟩ := row8 ZE
                    have HZ := Lib.hid (set8_row (.int .i64 0) (.string ⟨#[]⟩) (.int .i64 0) (.int .i64 0) (.int .i64 0) (.int .i64 0) (.int .i64 0) (.slice none 0 0) ZE)
                    have HF := Lib.hid (set8_below (u0 := .int .i64 0) (u1 := .string ⟨#[]⟩) (u2 := .int .i64 0) (u3 := .int .i64 0) (u4 := .int .i64 0) (u5 := .int .i64 0) (u6 := .int .i64 0) (u7 := .slice none 0 0) BE (Nat.le_refl _))
                    clear ZE BE
                    go_wp2_with fail
                    clear f0 f1 f2 f3 f4 f5 f6 f7 q0 q1 q2 q3 q4 q5 q6 q7
                    exact bodyPost_ret (v := .tuple #[repV 0 ⟨#[]⟩ 0 0 0 0 0 (.slice none 0 0), .int .i64 3]) (by obtain ⟨z0, z1, z2, z3, z4, z5, z6, z7⟩ := row8 HZ.out; simp [results, Tryz.results57, z0, z1, z2, z3, z4, z5, z6, z7, go_sem]) rfl (by rw [HPO.out]; exact .inr ⟨HNO.out, rfl, HF.out⟩)
                · have hje : j = rs.length := by omega
                  have k1 : ¬ ((j : Int) < (rs.length : Int)) := by omega
                  subst hje
                  rw [List.take_length] at HO HOK hRr
                  have HRD := Lib.hid (show ∀ k' nm' t' F' A' B' C' L', Rdd (x0 :: x1 :: x2 :: x :: rs) near k' nm' t' F' A' B' C' L' → r1 = 0 ∧ k' = kx ∧ nm' = x1 ∧ t' = a ∧ F' = F ∧ A' = A ∧ B' = B ∧ C' = C ∧ L' = rs.map eRd from fun k' nm' t' F' A' B' C' L' h => by
                    obtain ⟨st, rest', rs', e, hk', hst', hp, ho, rfl⟩ := h
                    injection e with e1 e2
                    injection e2 with e2 e3
                    injection e3 with e3 e4
                    subst e4; subst e3; subst e2
                    obtain rfl : k' = kx := by rw [← HKX.out, e1, kof_kw hk']
                    have hpx := HPX.out (by omega)
                    obtain ⟨rfl, rfl, rfl, rfl⟩ := hp.val hpx
                    obtain rfl := hp.one hpx
                    rcases HST.out with ⟨h1, h2⟩ | ⟨h1, h2⟩
                    · exact ⟨h1, rfl, rfl, hst'.one h2, rfl, rfl, rfl, rfl, rfl⟩
                    · exact absurd hst' (h2 _))
                  have hmj : (rs.map eRd).length ≤ 100001 := by rw [List.length_map]; omega
                  have HYE := Lib.hid (show r1 = 0 → vcode kx (S x1) a F A B C (rs.map eRd) = 0 → Rdd (x0 :: x1 :: x2 :: x :: rs) near kx x1 a F A B C (rs.map eRd) from fun h1 h2 => by
                    have hV := Vd.of h2
                    have hk0 : kx ≠ 0 := by have := hV.kind; omega
                    have hb := kof_back (x := x0) (by rw [HKX.out]; exact hk0)
                    rw [HKX.out] at hb
                    rcases HST.out with ⟨-, h3⟩ | ⟨h3, -⟩
                    · exact ⟨x2, x :: rs, rs, by rw [hb.2], hb.1, h3, HPX.out hk0, HOK.out, rfl⟩
                    · exact absurd h1 h3)
                  have hML : (rs.map eRd).length = rs.length := List.length_map _
                  generalize rs.map eRd = M at *
                  have HRI := Lib.hid (El.RdIn.own HO.out)
                  have ho1 : ∀ i, (Value.slice Au M.length cu).ownBlock = some i → i ≠ w.heap.size := fun i e => fun e2 => El.own_ne HO.out HZ2.out (by decide) (by rw [e, e2])
                  have HO1 := Lib.hid ho1
                  have HO2 := Lib.hid (show ∀ i, (Value.slice Au M.length cu).ownBlock = some i → w.heap.size ≤ i from fun i e => Nat.le_trans BT.out.size (row_baseQ HO.out e))
                  clear ho1
                  have RR := Lib.hid hRr
                  clear hRr
                  rw [hML] at HRI HO1 HO2 RR
                  have HVV0 := Lib.hid (fun W (h : El.RdIn W (.slice Au M.length cu) M) => refVal_any kx (S x1) a F A B C (.slice Au M.length cu) M W h HNS.out)
                  rw [hML] at HVV0
                  have HML := Lib.hid hML
                  clear hML hmj
                  by_cases hr1 : r1 = 0
                  · have HY2 := Lib.hid (HYE.out hr1)
                    clear HYE
                    subst hr1
                    have HVV := HVV0
                    obtain ⟨vc, hvc⟩ : ∃ z, vcode kx (S x1) a F A B C M = z := ⟨_, rfl⟩
                    rw [hvc] at HVV HY2
                    obtain ⟨p0, p1, p2, p3, p4, p5, p6, p7⟩ := row8 RR.out
                    go_wp2_with fail
                    refine (HVV.out _ HRI.out).mono ?_
                    rintro e w6 ⟨rfl, g6⟩
                    have BB := HB.out.trans (g6.mono HB.out.size)
                    have ZZ := HZ2.out.under g6
                    have HRI2 := Lib.hid (HRI.out.under g6)
                    have R2 := RR.out.under g6
                    clear p0 p1 p2 p3 p4 p5 p6 p7 g6 HVV HO
                    by_cases hv0 : vc = 0
                    · have HYD := HY2.out hv0
                      subst hv0
                      have HYES := Lib.hid (show PP kx x1 a F A B C M by rw [HPS.out]; exact ⟨HYD, hvc⟩)
                      obtain ⟨p0, p1, p2, p3, p4, p5, p6, p7⟩ := row8 R2
                      have f0 := ZZ.thaw 0
                      have f1 := ZZ.thaw 1
                      have f2 := ZZ.thaw 2
                      have f3 := ZZ.thaw 3
                      have f4 := ZZ.thaw 4
                      have f5 := ZZ.thaw 5
                      have f6 := ZZ.thaw 6
                      have f7 := ZZ.thaw 7
                      obtain ⟨q0, q1, q2, q3, q4, q5, q6, q7⟩ := row8 ZZ
                      have HZ9 := Lib.hid (set8_row (.int .i64 kx) (.string (S x1)) (.int .i64 a) (.int .i64 F) (.int .i64 A) (.int .i64 B) (.int .i64 C) (.slice Au rs.length cu) ZZ)
                      have HF9 := Lib.hid (set8_below (u0 := .int .i64 kx) (u1 := .string (S x1)) (u2 := .int .i64 a) (u3 := .int .i64 F) (u4 := .int .i64 A) (u5 := .int .i64 B) (u6 := .int .i64 C) (u7 := .slice Au rs.length cu) BB (Nat.le_refl _))
                      clear ZZ BB R2 hvc HYD HY2
                      go_wp2_with fail
                      clear f0 f1 f2 f3 f4 f5 f6 f7 q0 q1 q2 q3 q4 q5 q6 q7 p0 p1 p2 p3 p4 p5 p6 p7
                      exact bodyPost_ret (v := .tuple #[repV kx (S x1) a F A B C (.slice Au rs.length cu), .int .i64 0]) (by obtain ⟨z0, z1, z2, z3, z4, z5, z6, z7⟩ := row8 HZ9.out; simp [results, Tryz.results57, z0, z1, z2, z3, z4, z5, z6, z7, go_sem]) rfl (by
                        rw [HPO.out]
                        exact .inl ⟨kx, x1, a, _, _, _, _, M, _, HYES.out, rfl, rdIn_set HRI2.out HO1.out _ _ _ _ _ _ _ _, HF9.out, HO2.out⟩)
                    · have q : (vc != 0) = true := by rw [bne_iff_ne]; exact hv0
                      have HNO := Lib.hid (show ∀ k nm t F A B C L, ¬ PP k nm t F A B C L from fun k' nm t F' A' B' C' L h => by
                        rw [HPS.out] at h
                        obtain ⟨-, rfl, rfl, rfl, rfl, rfl, rfl, rfl, rfl⟩ := HRD.out _ _ _ _ _ _ _ _ h.1
                        exact hv0 (hvc.symm.trans h.2))
                      clear hv0 R2 hvc HY2
                      have f0 := ZZ.thaw 0
                      have f1 := ZZ.thaw 1
                      have f2 := ZZ.thaw 2
                      have f3 := ZZ.thaw 3
                      have f4 := ZZ.thaw 4
                      have f5 := ZZ.thaw 5
                      have f6 := ZZ.thaw 6
                      have f7 := ZZ.thaw 7
                      obtain ⟨q0, q1, q2, q3, q4, q5, q6, q7⟩ := row8 ZZ
                      have HZ := Lib.hid (set8_row (.int .i64 0) (.string ⟨#[]⟩) (.int .i64 0) (.int .i64 0) (.int .i64 0) (.int .i64 0) (.int .i64 0) (.slice none 0 0) ZZ)
                      have HF := Lib.hid (set8_below (u0 := .int .i64 0) (u1 := .string ⟨#[]⟩) (u2 := .int .i64 0) (u3 := .int .i64 0) (u4 := .int .i64 0) (u5 := .int .i64 0) (u6 := .int .i64 0) (u7 := .slice none 0 0) BB (Nat.le_refl _))
                      clear ZZ BB
                      go_wp2_with fail
                      clear f0 f1 f2 f3 f4 f5 f6 f7 q0 q1 q2 q3 q4 q5 q6 q7
                      exact bodyPost_ret (v := .tuple #[repV 0 ⟨#[]⟩ 0 0 0 0 0 (.slice none 0 0), .int .i64 3]) (by obtain ⟨z0, z1, z2, z3, z4, z5, z6, z7⟩ := row8 HZ.out; simp [results, Tryz.results57, z0, z1, z2, z3, z4, z5, z6, z7, go_sem]) rfl (by rw [HPO.out]; exact .inr ⟨HNO.out, rfl, HF.out⟩)
                  · have q : (r1 != 0) = true := by rw [bne_iff_ne]; exact hr1
                    have HNO := Lib.hid (show ∀ k nm t F A B C L, ¬ PP k nm t F A B C L from fun k' nm t F' A' B' C' L h => by
                      rw [HPS.out] at h
                      exact hr1 (HRD.out _ _ _ _ _ _ _ _ h.1).1)
                    have ZZ := HZ2.out
                    have BB := HB.out
                    clear hr1 HO RR HVV0 HYE
                    have f0 := ZZ.thaw 0
                    have f1 := ZZ.thaw 1
                    have f2 := ZZ.thaw 2
                    have f3 := ZZ.thaw 3
                    have f4 := ZZ.thaw 4
                    have f5 := ZZ.thaw 5
                    have f6 := ZZ.thaw 6
                    have f7 := ZZ.thaw 7
                    obtain ⟨q0, q1, q2, q3, q4, q5, q6, q7⟩ := row8 ZZ
                    have HZ := Lib.hid (set8_row (.int .i64 0) (.string ⟨#[]⟩) (.int .i64 0) (.int .i64 0) (.int .i64 0) (.int .i64 0) (.int .i64 0) (.slice none 0 0) ZZ)
                    have HF := Lib.hid (set8_below (u0 := .int .i64 0) (u1 := .string ⟨#[]⟩) (u2 := .int .i64 0) (u3 := .int .i64 0) (u4 := .int .i64 0) (u5 := .int .i64 0) (u6 := .int .i64 0) (u7 := .slice none 0 0) BB (Nat.le_refl _))
                    clear ZZ BB
                    go_wp2_with fail
                    clear f0 f1 f2 f3 f4 f5 f6 f7 q0 q1 q2 q3 q4 q5 q6 q7
                    exact bodyPost_ret (v := .tuple #[repV 0 ⟨#[]⟩ 0 0 0 0 0 (.slice none 0 0), .int .i64 3]) (by obtain ⟨z0, z1, z2, z3, z4, z5, z6, z7⟩ := row8 HZ.out; simp [results, Tryz.results57, z0, z1, z2, z3, z4, z5, z6, z7, go_sem]) rfl (by rw [HPO.out]; exact .inr ⟨HNO.out, rfl, HF.out⟩)
          · have q : (rp != 0) = true := by rw [bne_iff_ne]; exact hrp
            have HNO := Lib.hid (show ∀ k nm t F A B C L, ¬ PP k nm t F A B C L from fun k' nm t F' A' B' C' L h => by
              rw [HPS.out] at h
              obtain ⟨⟨st, rest', rs', e, hk', _, hp, _⟩, _⟩ := h
              injection e with e1 e2
              injection e2 with e2 e3
              injection e3 with e3 e4
              subst e4
              obtain rfl : k' = kx := by rw [← HKX.out, e1, kof_kw hk']
              rcases hp with ⟨h1, -⟩ | ⟨-, y, h1, h2⟩
              · omega
              · injection h1 with h1 h3
                subst h1
                rw [HPE.out] at h2
                simp only [Prod.mk.injEq] at h2
                exact hrp h2.2.2.2.2)
            clear hrp PE RE GE
            go_upto_region 19 with fail
            generalize w5.alloc (.cells #[.int .i64 F, .int .i64 A, .int .i64 B, .int .i64 C] 50) = WE at *
            have f0 := ZE.thaw 0
            have f1 := ZE.thaw 1
            have f2 := ZE.thaw 2
            have f3 := ZE.thaw 3
            have f4 := ZE.thaw 4
            have f5 := ZE.thaw 5
            have f6 := ZE.thaw 6
            have f7 := ZE.thaw 7
            obtain ⟨q0, q1, q2, q3, q4, q5, q6, q7⟩ := row8 ZE
            have HZ := Lib.hid (set8_row (.int .i64 0) (.string ⟨#[]⟩) (.int .i64 0) (.int .i64 0) (.int .i64 0) (.int .i64 0) (.int .i64 0) (.slice none 0 0) ZE)
            have HF := Lib.hid (set8_below (u0 := .int .i64 0) (u1 := .string ⟨#[]⟩) (u2 := .int .i64 0) (u3 := .int .i64 0) (u4 := .int .i64 0) (u5 := .int .i64 0) (u6 := .int .i64 0) (u7 := .slice none 0 0) BE (Nat.le_refl _))
            clear ZE BE
            go_wp2_with fail
            clear f0 f1 f2 f3 f4 f5 f6 f7 q0 q1 q2 q3 q4 q5 q6 q7
            exact bodyPost_ret (v := .tuple #[repV 0 ⟨#[]⟩ 0 0 0 0 0 (.slice none 0 0), .int .i64 3]) (by obtain ⟨z0, z1, z2, z3, z4, z5, z6, z7⟩ := row8 HZ.out; simp [results, Tryz.results57, z0, z1, z2, z3, z4, z5, z6, z7, go_sem]) rfl (by rw [HPO.out]; exact .inr ⟨HNO.out, rfl, HF.out⟩)
      · have s2 : (kx == 2) = false := beq_eq_false_iff_ne.2 (by omega)
        have s3 : (kx == 3) = false := beq_eq_false_iff_ne.2 (by omega)
        have HPX := Lib.hid (show kx ≠ 0 → Plx kx rest 0 0 0 0 rest from fun h => .inl ⟨by omega, rfl, rfl, rfl, rfl, rfl⟩)
        have BT := B8
        have ZT := Z8
        have RT := R8
        have CS := HCS
        have hgT := hg4
        have HSZ := hsr
        have hTR := RT.out.lt
        have hTZ := ZT.out.lt
        have hlc : rest.length ≤ 100001 := by omega
        go_wp2_with fail
        go_loopw [14] (fun t wr => ∃ j : Nat, j ≤ rest.length ∧ t = .int .i64 j ∧ (∀ y ∈ rest.take j, (eP y).2.2 = 0) ∧ Below w.heap.size w wr ∧ wc.grownBy wr (some gr) ∧ Row wr w.heap.size 53 (repC 0 ⟨#[]⟩ 0 0 0 0 0 (.slice none 0 0)) ∧ ∃ u, wr.ownsRow wc.heap.size 99 2 u ((rest.take j).map eRd).length (El.rdc ((rest.take j).map eRd)) ∧ Row wr gr 53 (repC kx (S x1) a 0 0 0 0 u)) (fun t _ => rest.length - (intOf t).toNat)
        case atStart => exact ⟨0, Nat.zero_le _, rfl, fun y hy => by simp at hy, BT.out, grown_refl _ _, ZT.out, _, World.ownsRow_nil _ _ _ _, RT.out⟩
        case round =>
          obtain ⟨j, hj, rfl, hok, hB, hG, hZ, u, hO, hRr⟩ := hrel
          have HB := Lib.hid hB
          have HG := Lib.hid hG
          have HZ2 := Lib.hid hZ
          have HOK := Lib.hid hok
          clear hB hG hZ hok
          obtain ⟨Au, cu, rfl, -⟩ := id (El.RdIn.own hO)
          have HO := Lib.hid hO
          clear hO
          by_cases hlt : j < rest.length
          · have c9 := (World.cell?_of_block (HG.out.block g hgT hgne)).trans (CS.out j hlt)
            have hsz := HSZ.out _ (List.getElem_mem hlt)
            have hmem := Lib.hid (List.getElem_mem hlt)
            have hn := Lib.hid (show rest.take (j + 1) = rest.take j ++ [rest[j]] from List.take_succ_eq_append_getElem hlt)
            have j0 : (0 : Int) ≤ (j : Int) := by omega
            have j1 : (j : Int) < (rest.length : Int) := by omega
            generalize rest[j] = x at *
            have HP := Lib.hid (fun W => eP_ref x W)
            have HX := Lib.hid (show eRd x = ((eP x).1, (eP x).2.1) from rfl)
            obtain ⟨er, her⟩ : ∃ r, (eP x).2.2 = r := ⟨_, rfl⟩
            rw [her] at HP
            have HER := Lib.hid her; clear her
            generalize (eP x).1 = y0 at *
            generalize (eP x).2.1 = y2 at *
            generalize S x = tx at *
            unfold El.rdV at HP
            clear hsz
            go_wp2_with fail
            refine (HP.out _).mono ?_
            rintro e w6 ⟨rfl, g6⟩
            try unfold El.rdV
            have BB := Lib.hid (HB.out.trans (g6.mono HB.out.size))
            have GG := Lib.hid (grown_trans HG.out (grown_below g6))
            have ZZ := Lib.hid (HZ2.out.under g6)
            have OO := Lib.hid (El.own_under HO.out g6)
            have RR := Lib.hid (hRr.under g6)
            clear HB HG HZ2 HO hRr g6 c9
            have hmj : ((rest.take j).map eRd).length ≤ 100001 := by rw [List.length_map, List.length_take]; omega
            by_cases he : er = 0
            · subst he
              have ba := (Below.refl w6.heap.size w6).alloc (Nat.le_refl _) (.cells #[.int .i64 y0, .int .i64 y2] 99)
              have r6 := Row.new w6 #[.int .i64 y0, .int .i64 y2] 99
              have hgr6 := RR.out.lt
              have hq2 : gr < wc.heap.size := hTR
              generalize hMM : (rest.take j).map eRd = M at *
              have HMM := Lib.hid hMM; clear hMM
              have bb := ba.trans (((Below.refl _ _).alloc (Nat.le_refl _) (.cells #[.int .i64 y0, .int .i64 y2] 99)).mono ba.size)
              have O8 := Lib.hid (El.own_under OO.out bb)
              have B8' := Lib.hid (BB.out.trans (bb.mono BB.out.size))
              have G8' := Lib.hid (grown_trans GG.out (grown_below bb))
              have Z8' := Lib.hid (ZZ.out.under bb)
              have RR8 := Lib.hid (RR.out.under bb)
              have hs8 := Nat.le_trans GG.out.size bb.size
              have RA := RR.out.under ba
              clear ba bb BB GG ZZ OO RR
              go_upto_region 28 with fail
              obtain ⟨d0, d1⟩ := row2 r6
              have p7 := (row8 RA).2.2.2.2.2.2.2
              go_wp2_with (at_builtin; go_loud (refine wpList_append_lies _ rfl (.tmp 99) (.tmp 101) 51 rfl wc.heap.size 99 i0 _ 2 16 Tryz.underlying51 hi hz0 hz1 hz2 rfl (by decide) _ M.length (El.rdc M) rfl O8.out ⟨w6.heap.size + 1, 0, none⟩ 1 1 [.int .i64 y0, .int .i64 y2] rfl rfl (World.news_of_block (cs := #[.int .i64 y0, .int .i64 y2]) (t := 99) (fr := (0, 0)) (by have := heap_alloc_new (w6.alloc (.cells #[.int .i64 y0, .int .i64 y2] 99)) (.cells #[.int .i64 y0, .int .i64 y2] 99); simpa using this)) (by simp [Value.oneCell']) (by omega) (by unfold maxLen; omega) (by omega) hs8 (w6.heap.size + 2) (by simp) ?_; intro g' cap' w8 hown8 hgrow8 hat8 hlt8; have RW := RR8.out.grown hgrow8 (El.own_ne O8.out RR8.out (by decide)); have z7 := (row8 RW).2.2.2.2.2.2.2; have f7 := RW.thaw 7; have E9 := Lib.hid (And.intro (El.below_own B8'.out B8'.out.size (own_base O8.out BT.out.size) hgrow8) (And.intro (grown_own G8'.out O8.out hgrow8) (And.intro (Z8'.out.grown hgrow8 (El.own_ne O8.out Z8'.out (by decide))) (And.intro hown8 RW)))); clear hown8 hgrow8 hat8 hlt8 RW))
              have hneg : some gr ≠ (Value.slice (some ⟨g', 0, none⟩) (M.length + 1) cap').ownBlock := El.own_ne E9.out.2.2.2.1 E9.out.2.2.2.2 (by decide)
              clear z7 f7 p7 d0 d1 RA r6
              go_roundw
              case rel =>
                refine ⟨j + 1, by omega, by go_num, fun y hy => ?_, E9.out.1.setCell (p := ⟨gr, 7, none⟩) (Nat.le_of_lt hgr) _, grown_put E9.out.2.1 7 _, E9.out.2.2.1.far (p := ⟨gr, 7, none⟩) (Nat.ne_of_gt hgr) _, .slice (some ⟨g', 0, none⟩) (M.length + 1) cap', ?_, E9.out.2.2.2.2.put 7 _⟩
                · rw [hn.out] at hy
                  rcases List.mem_append.1 hy with hy | hy
                  · exact HOK.out y hy
                  · rw [List.mem_singleton.1 hy]; exact HER.out
                · rw [hn.out, List.map_append, HMM.out, List.map_cons, List.map_nil, HX.out, El.rdc_snoc, List.length_append]
                  exact own_far E9.out.2.2.2.1 (fun g2 e => Below.heap_setCell w8 ⟨gr, 7, none⟩ _ g2 (fun e2 => hneg (by rw [e]; first | exact congrArg some e2 | exact congrArg some e2.symm)))
              case measure => simp [intOf]; omega
            · have q : (er != 0) = true := by rw [bne_iff_ne]; exact he
              have ba := (Below.refl w6.heap.size w6).alloc (Nat.le_refl _) (.cells #[.int .i64 y0, .int .i64 y2] 99)
              have BE := BB.out.trans (ba.mono BB.out.size)
              have ZE := ZZ.out.under ba
              have HNO := Lib.hid (show ∀ k nm t F A B C L, ¬ PP k nm t F A B C L from fun k' nm t F' A' B' C' L h => by
                rw [HPS.out] at h
                obtain ⟨⟨st, rest', rs', e, hk', _, hp, ho, _⟩, _⟩ := h
                injection e with e1 e2
                injection e2 with e2 e3
                injection e3 with e3 e4
                subst e4
                obtain rfl : k' = kx := by rw [← HKX.out, e1, kof_kw hk']
                rw [← (HPX.out (by omega)).one hp] at ho
                exact he (by rw [← HER.out]; exact ho x hmem.out))
              clear BB GG ZZ OO RR ba
              go_upto_region 26 with fail
              generalize w6.alloc (.cells #[.int .i64 y0, .int .i64 y2] 99) = WE at *
              have f0 := ZE.thaw 0
              have f1 := ZE.thaw 1
              have f2 := ZE.thaw 2
              have f3 := ZE.thaw 3
              have f4 := ZE.thaw 4
              have f5 := ZE.thaw 5
              have f6 := ZE.thaw 6
              have f7 := ZE.thaw 7
              obtain ⟨q0, q1, q2, q3, q4, q5, q6, q7⟩ := row8 ZE
              have HZ := Lib.hid (set8_row (.int .i64 0) (.string ⟨#[]⟩) (.int .i64 0) (.int .i64 0) (.int .i64 0) (.int .i64 0) (.int .i64 0) (.slice none 0 0) ZE)
              have HF := Lib.hid (set8_below (u0 := .int .i64 0) (u1 := .string ⟨#[]⟩) (u2 := .int .i64 0) (u3 := .int .i64 0) (u4 := .int .i64 0) (u5 := .int .i64 0) (u6 := .int .i64 0) (u7 := .slice none 0 0) BE (Nat.le_refl _))
              clear ZE BE
              go_wp2_with fail
              clear f0 f1 f2 f3 f4 f5 f6 f7 q0 q1 q2 q3 q4 q5 q6 q7
              exact bodyPost_ret (v := .tuple #[repV 0 ⟨#[]⟩ 0 0 0 0 0 (.slice none 0 0), .int .i64 3]) (by obtain ⟨z0, z1, z2, z3, z4, z5, z6, z7⟩ := row8 HZ.out; simp [results, Tryz.results57, z0, z1, z2, z3, z4, z5, z6, z7, go_sem]) rfl (by rw [HPO.out]; exact .inr ⟨HNO.out, rfl, HF.out⟩)
          · have hje : j = rest.length := by omega
            have k1 : ¬ ((j : Int) < (rest.length : Int)) := by omega
            subst hje
            rw [List.take_length] at HO HOK hRr
            have HRD := Lib.hid (show ∀ k' nm' t' F' A' B' C' L', Rdd (x0 :: x1 :: x2 :: rest) near k' nm' t' F' A' B' C' L' → r1 = 0 ∧ k' = kx ∧ nm' = x1 ∧ t' = a ∧ F' = 0 ∧ A' = 0 ∧ B' = 0 ∧ C' = 0 ∧ L' = rest.map eRd from fun k' nm' t' F' A' B' C' L' h => by
              obtain ⟨st, rest', rs', e, hk', hst', hp, ho, rfl⟩ := h
              injection e with e1 e2
              injection e2 with e2 e3
              injection e3 with e3 e4
              subst e4; subst e3; subst e2
              obtain rfl : k' = kx := by rw [← HKX.out, e1, kof_kw hk']
              have hpx := HPX.out (by omega)
              obtain ⟨rfl, rfl, rfl, rfl⟩ := hp.val hpx
              obtain rfl := hp.one hpx
              rcases HST.out with ⟨h1, h2⟩ | ⟨h1, h2⟩
              · exact ⟨h1, rfl, rfl, hst'.one h2, rfl, rfl, rfl, rfl, rfl⟩
              · exact absurd hst' (h2 _))
            have hmj : (rest.map eRd).length ≤ 100001 := by rw [List.length_map]; omega
            have HYE := Lib.hid (show r1 = 0 → vcode kx (S x1) a 0 0 0 0 (rest.map eRd) = 0 → Rdd (x0 :: x1 :: x2 :: rest) near kx x1 a 0 0 0 0 (rest.map eRd) from fun h1 h2 => by
              have hV := Vd.of h2
              have hk0 : kx ≠ 0 := by have := hV.kind; omega
              have hb := kof_back (x := x0) (by rw [HKX.out]; exact hk0)
              rw [HKX.out] at hb
              rcases HST.out with ⟨-, h3⟩ | ⟨h3, -⟩
              · exact ⟨x2, rest, rest, by rw [hb.2], hb.1, h3, HPX.out hk0, HOK.out, rfl⟩
              · exact absurd h1 h3)
            have hML : (rest.map eRd).length = rest.length := List.length_map _
            generalize rest.map eRd = M at *
            have HRI := Lib.hid (El.RdIn.own HO.out)
            have ho1 : ∀ i, (Value.slice Au M.length cu).ownBlock = some i → i ≠ w.heap.size := fun i e => fun e2 => El.own_ne HO.out HZ2.out (by decide) (by rw [e, e2])
            have HO1 := Lib.hid ho1
            have HO2 := Lib.hid (show ∀ i, (Value.slice Au M.length cu).ownBlock = some i → w.heap.size ≤ i from fun i e => Nat.le_trans BT.out.size (row_baseQ HO.out e))
            clear ho1
            have RR := Lib.hid hRr
            clear hRr
            rw [hML] at HRI HO1 HO2 RR
            have HVV0 := Lib.hid (fun W (h : El.RdIn W (.slice Au M.length cu) M) => refVal_any kx (S x1) a 0 0 0 0 (.slice Au M.length cu) M W h HNS.out)
            rw [hML] at HVV0
            have HML := Lib.hid hML
            clear hML hmj
            by_cases hr1 : r1 = 0
            · have HY2 := Lib.hid (HYE.out hr1)
              clear HYE
              subst hr1
              have HVV := HVV0
              obtain ⟨vc, hvc⟩ : ∃ z, vcode kx (S x1) a 0 0 0 0 M = z := ⟨_, rfl⟩
              rw [hvc] at HVV HY2
              obtain ⟨p0, p1, p2, p3, p4, p5, p6, p7⟩ := row8 RR.out
              go_wp2_with fail
              refine (HVV.out _ HRI.out).mono ?_
              rintro e w6 ⟨rfl, g6⟩
              have BB := HB.out.trans (g6.mono HB.out.size)
              have ZZ := HZ2.out.under g6
              have HRI2 := Lib.hid (HRI.out.under g6)
              have R2 := RR.out.under g6
              clear p0 p1 p2 p3 p4 p5 p6 p7 g6 HVV HO
              by_cases hv0 : vc = 0
              · have HYD := HY2.out hv0
                subst hv0
                have HYES := Lib.hid (show PP kx x1 a 0 0 0 0 M by rw [HPS.out]; exact ⟨HYD, hvc⟩)
                obtain ⟨p0, p1, p2, p3, p4, p5, p6, p7⟩ := row8 R2
                have f0 := ZZ.thaw 0
                have f1 := ZZ.thaw 1
                have f2 := ZZ.thaw 2
                have f3 := ZZ.thaw 3
                have f4 := ZZ.thaw 4
                have f5 := ZZ.thaw 5
                have f6 := ZZ.thaw 6
                have f7 := ZZ.thaw 7
                obtain ⟨q0, q1, q2, q3, q4, q5, q6, q7⟩ := row8 ZZ
                have HZ9 := Lib.hid (set8_row (.int .i64 kx) (.string (S x1)) (.int .i64 a) (.int .i64 0) (.int .i64 0) (.int .i64 0) (.int .i64 0) (.slice Au rest.length cu) ZZ)
                have HF9 := Lib.hid (set8_below (u0 := .int .i64 kx) (u1 := .string (S x1)) (u2 := .int .i64 a) (u3 := .int .i64 0) (u4 := .int .i64 0) (u5 := .int .i64 0) (u6 := .int .i64 0) (u7 := .slice Au rest.length cu) BB (Nat.le_refl _))
                clear ZZ BB R2 hvc HYD HY2
                go_wp2_with fail
                clear f0 f1 f2 f3 f4 f5 f6 f7 q0 q1 q2 q3 q4 q5 q6 q7 p0 p1 p2 p3 p4 p5 p6 p7
                exact bodyPost_ret (v := .tuple #[repV kx (S x1) a 0 0 0 0 (.slice Au rest.length cu), .int .i64 0]) (by obtain ⟨z0, z1, z2, z3, z4, z5, z6, z7⟩ := row8 HZ9.out; simp [results, Tryz.results57, z0, z1, z2, z3, z4, z5, z6, z7, go_sem]) rfl (by
                  rw [HPO.out]
                  exact .inl ⟨kx, x1, a, _, _, _, _, M, _, HYES.out, rfl, rdIn_set HRI2.out HO1.out _ _ _ _ _ _ _ _, HF9.out, HO2.out⟩)
              · have q : (vc != 0) = true := by rw [bne_iff_ne]; exact hv0
                have HNO := Lib.hid (show ∀ k nm t F A B C L, ¬ PP k nm t F A B C L from fun k' nm t F' A' B' C' L h => by
                  rw [HPS.out] at h
                  obtain ⟨-, rfl, rfl, rfl, rfl, rfl, rfl, rfl, rfl⟩ := HRD.out _ _ _ _ _ _ _ _ h.1
                  exact hv0 (hvc.symm.trans h.2))
                clear hv0 R2 hvc HY2
                have f0 := ZZ.thaw 0
                have f1 := ZZ.thaw 1
                have f2 := ZZ.thaw 2
                have f3 := ZZ.thaw 3
                have f4 := ZZ.thaw 4
                have f5 := ZZ.thaw 5
                have f6 := ZZ.thaw 6
                have f7 := ZZ.thaw 7
                obtain ⟨q0, q1, q2, q3, q4, q5, q6, q7⟩ := row8 ZZ
                have HZ := Lib.hid (set8_row (.int .i64 0) (.string ⟨#[]⟩) (.int .i64 0) (.int .i64 0) (.int .i64 0) (.int .i64 0) (.int .i64 0) (.slice none 0 0) ZZ)
                have HF := Lib.hid (set8_below (u0 := .int .i64 0) (u1 := .string ⟨#[]⟩) (u2 := .int .i64 0) (u3 := .int .i64 0) (u4 := .int .i64 0) (u5 := .int .i64 0) (u6 := .int .i64 0) (u7 := .slice none 0 0) BB (Nat.le_refl _))
                clear ZZ BB
                go_wp2_with fail
                clear f0 f1 f2 f3 f4 f5 f6 f7 q0 q1 q2 q3 q4 q5 q6 q7
                exact bodyPost_ret (v := .tuple #[repV 0 ⟨#[]⟩ 0 0 0 0 0 (.slice none 0 0), .int .i64 3]) (by obtain ⟨z0, z1, z2, z3, z4, z5, z6, z7⟩ := row8 HZ.out; simp [results, Tryz.results57, z0, z1, z2, z3, z4, z5, z6, z7, go_sem]) rfl (by rw [HPO.out]; exact .inr ⟨HNO.out, rfl, HF.out⟩)
            · have q : (r1 != 0) = true := by rw [bne_iff_ne]; exact hr1
              have HNO := Lib.hid (show ∀ k nm t F A B C L, ¬ PP k nm t F A B C L from fun k' nm t F' A' B' C' L h => by
                rw [HPS.out] at h
                exact hr1 (HRD.out _ _ _ _ _ _ _ _ h.1).1)
              have ZZ := HZ2.out
              have BB := HB.out
              clear hr1 HO RR HVV0 HYE
              have f0 := ZZ.thaw 0
              have f1 := ZZ.thaw 1
              have f2 := ZZ.thaw 2
              have f3 := ZZ.thaw 3
              have f4 := ZZ.thaw 4
              have f5 := ZZ.thaw 5
              have f6 := ZZ.thaw 6
              have f7 := ZZ.thaw 7
              obtain ⟨q0, q1, q2, q3, q4, q5, q6, q7⟩ := row8 ZZ
              have HZ := Lib.hid (set8_row (.int .i64 0) (.string ⟨#[]⟩) (.int .i64 0) (.int .i64 0) (.int .i64 0) (.int .i64 0) (.int .i64 0) (.slice none 0 0) ZZ)
              have HF := Lib.hid (set8_below (u0 := .int .i64 0) (u1 := .string ⟨#[]⟩) (u2 := .int .i64 0) (u3 := .int .i64 0) (u4 := .int .i64 0) (u5 := .int .i64 0) (u6 := .int .i64 0) (u7 := .slice none 0 0) BB (Nat.le_refl _))
              clear ZZ BB
              go_wp2_with fail
              clear f0 f1 f2 f3 f4 f5 f6 f7 q0 q1 q2 q3 q4 q5 q6 q7
              exact bodyPost_ret (v := .tuple #[repV 0 ⟨#[]⟩ 0 0 0 0 0 (.slice none 0 0), .int .i64 3]) (by obtain ⟨z0, z1, z2, z3, z4, z5, z6, z7⟩ := row8 HZ.out; simp [results, Tryz.results57, z0, z1, z2, z3, z4, z5, z6, z7, go_sem]) rfl (by rw [HPO.out]; exact .inr ⟨HNO.out, rfl, HF.out⟩)

    · have hk3 : 1 ≤ k ∧ k ≤ 3 := by omega
      have d0 : wr.drew.cell? ⟨g, 0, none⟩ = some (.string (S x0)) := (World.cell?_of_block (HG.out.block g hgW hgne)).trans D0.out
      have q1 : k ≤ 3 := hk3.2
      have hb2 := Below.refl wr.drew.heap.size wr.drew
      have hgd : g < wr.drew.heap.size := hgwr
      have D0d := Lib.hid d0
      go_upto_region 10 with fail
      obtain ⟨kk, hkk⟩ : ∃ x, kw k = x := ⟨_, rfl⟩
      have q2 := KE.out k hk3
      rw [hkk] at q2
      have HKK := Lib.hid hkk
      clear hkk
      go_region_held3 (fun w' => w'.cell? ⟨g, 0, none⟩ = some (.string (S x0)))
        (first | go_keep | exact (hb2.cell (p := ⟨g, 0, none⟩) hgd).trans D0d.out)
        (first | (go_at_call 71; refine (refWord_fromQ _ wr.drew _ hk3 hb2).mono ?_; clear hb2; rintro e w3 ⟨rfl, hb2⟩; rw [HKK.out]))
      have hud := undrew hb2
      have BB := Lib.hid (HB.out.trans (hud.mono HB.out.size))
      have GG := Lib.hid (grown_trans HG.out (grown_below hud))
      have ZZ := Lib.hid (HZr.out.under hud)
      have RR := Lib.hid (HRr.out.under hud)
      clear hb2 hud d0 D0d HB HG HZr HRr hgwr hgd
      by_cases hkx' : k = kx
      · have e1 : decide (k = kx) = true := decide_eq_true hkx'
        rw [e1] at q2
        clear e1
        subst hkx'
        obtain ⟨p0, p1, p2, p3, p4, p5, p6, p7⟩ := row8 RR.out
        have f0 := RR.out.thaw 0
        have B8 := Lib.hid (BB.out.setCell (p := ⟨gr, 0, none⟩) (Nat.le_of_lt hgr) (.int .i64 k))
        have G8 := Lib.hid (grown_put GG.out 0 (.int .i64 k))
        have Z8 := Lib.hid (ZZ.out.far (p := ⟨gr, 0, none⟩) (Nat.ne_of_gt hgr) (.int .i64 k))
        have R8 : Hid (Row (w3.setCell ⟨gr, 0, none⟩ (.int .i64 k)) gr 53 (repC k (S x1) 0 0 0 0 0 (.slice none 0 0))) := Lib.hid (RR.out.put 0 _)
        clear BB GG ZZ RR
        go_wp2_with fail
        go_roundw
        case rel => exact ⟨k + 1, by omega, by go_num, B8.out, G8.out, Z8.out, by rw [show (if k < k + 1 then k else 0) = k by rw [if_pos (by omega)]]; exact R8.out⟩
        case measure => simp [intOf]; omega
      · have e1 : decide (k = kx) = false := decide_eq_false hkx'
        rw [e1] at q2
        clear e1
        go_wp2_with fail
        go_roundw
        case rel => exact ⟨k + 1, by omega, by go_num, BB.out, GG.out, ZZ.out, by rw [show (if kx < k + 1 then kx else 0) = (if kx < k then kx else 0) by by_cases h : kx < k; rw [if_pos h, if_pos (by omega)]; rw [if_neg h, if_neg (by omega)]]; exact RR.out⟩
        case measure => simp [intOf]; omega
end Go.Proofs.YtfnlgfacadmjpaaGreatDoor
