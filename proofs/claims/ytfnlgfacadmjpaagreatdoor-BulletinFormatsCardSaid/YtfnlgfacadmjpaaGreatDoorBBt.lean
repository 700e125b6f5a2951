/- The law's bent: a bulletin with a list of reports of its own. -/
import Derived.Test.YtfnlgfacadmjpaaGreatDoorBRa
import Derived.Test.YtfnlgfacadmjpaaGreatDoorGOwn
import Derived.Test.YtfnlgfacadmjpaaGreatDoorGBent
namespace Go.Proofs.YtfnlgfacadmjpaaGreatDoor.Bu
open Go.RowKit

/-- A list of reports stays when a row that lies behind it grows. -/
theorem RM.grown {W Y0 Y Y' : World} {b base g : Nat} {R : List Rp} {v : Value} (h : RM W b base R v Y0) (hb : Below Y0.heap.size Y0 Y) (hg : Y.grownBy Y' (some g)) (hgs : Y0.heap.size ≤ g) (hW : W.heap.size ≤ Y0.heap.size) : RM W b base R v Y' := by
  have hbl := src_lt h.src
  have key : ∀ i, i < Y0.heap.size → Y'.heap[i]? = Y0.heap[i]? := fun i hi => (hg.block i (Nat.lt_of_lt_of_le hi hb.size) (fun e => by injection e with e; omega)).trans (hb.block i hi)
  refine ⟨El.src_kept (h.src.under hb) hg (fun e => by injection e with e; omega) (fun i e => by injection e with e; omega), h.bb, own_heap h.own (fun i hi => key i (row_size h.own hi)), fun r hr => ?_⟩
  obtain ⟨base', hbb, ho⟩ := h.rds r hr
  exact ⟨base', hbb, own_heap ho (fun i hi => key i (row_size ho hi))⟩
/-- The cells of an owned row of reports. -/
theorem own_cells {W : World} {base : Nat} {A : Option Addr} {n cap : Nat} {R : List Rp} (h : W.ownsRow base 53 8 (.slice A n cap) R.length (rpc R)) : (A = none → n = 0) ∧ ∀ ad, A = some ad → ∀ (j : Nat) u, (rpc R)[j]? = some u → W.cell? (ad.add j) = some u := by
  rcases h.2 with ⟨e, h0⟩ | ⟨g, cap', cur, e, hb, hg, hc, hm, hs, hx⟩
  · injection e with e1 e2 e3
    refine ⟨fun _ => e2, fun ad e => ?_⟩
    rw [e1] at e; cases e
  · injection e with e1 e2 e3
    refine ⟨fun e => (by rw [e1] at e; cases e), fun ad e j u hu => ?_⟩
    rw [e1] at e
    injection e with e
    subst e
    have h1 : W.cell? ⟨g, 0 + j, none⟩ = cur[0 + j]? := by simp [World.cell?, hg]
    rw [Addr.add_lit, h1, Nat.zero_add]
    rw [← hx, List.getElem?_take] at hu
    split at hu
    · rw [← Array.getElem?_toList]; exact hu
    · cases hu
theorem rpc_len : ∀ R : List Rp, (rpc R).length = R.length * 8
  | [] => rfl
  | r :: R => by
    show (rpCells r ++ rpc R).length = _
    rw [List.length_append, rpc_len R, List.length_cons]
    show 8 + _ = _
    omega
theorem rpc_one5 (R : List Rp) (h : ∀ r ∈ R, ∃ A n c, r.u = .slice A n c) : ∀ u ∈ rpc R, u.oneCell' = true := by
  intro u hu
  obtain ⟨r, hm, hr⟩ := List.mem_flatMap.1 hu
  obtain ⟨A, n, c, he⟩ := h r hm
  simp only [rpCells, List.mem_cons, List.not_mem_nil, or_false] at hr
  rcases hr with rfl | rfl | rfl | rfl | rfl | rfl | rfl | rfl <;> first | rfl | (rw [he]; rfl)
theorem grown_more {a c d : World} {r : Option Nat} {g : Nat} (h : a.grownBy c r) (k : c.grownBy d (some g)) (hg : a.heap.size ≤ g) : a.grownBy d r :=
  ⟨k.os.trans h.os, k.tape.trans h.tape, k.output.trans h.output, Nat.le_trans h.size k.size, fun i hi hr => (k.block i (Nat.lt_of_lt_of_le hi h.size) (fun e => by injection e with e; omega)).trans (h.block i hi hr)⟩
/-- Two lists of reports, the result's box, the bulletin's box. -/
structure Nw (W w0 : World) (b base base2 g3 g4 : Nat) (c : ByteArray) (t cor del : Int) (R : List Rp) (v : Value) (R2 : List Rp) (v2 : Value) (Y : World) : Prop where
  rm : RM W b base R v Y
  r2 : RM W b base2 R2 v2 Y
  r4 : Row Y g4 24 (bulC ⟨#[]⟩ 0 0 0 (.slice none 0 0))
  r3 : Row Y g3 24 (bulC c t cor del v2)
  gro : w0.grownBy Y (some b)
  lo : w0.heap.size ≤ g3 ∧ w0.heap.size ≤ g4 ∧ w0.heap.size ≤ base2
section
variable {W w0 Y Y' : World} {b base base2 g3 g4 : Nat} {c : ByteArray} {t cor del : Int} {R R2 : List Rp} {v v2 : Value}
theorem Nw.step (h : Nw W w0 b base base2 g3 g4 c t cor del R v R2 v2 Y) (h4 : g4 ≠ b) (h3 : g3 ≠ b) (hs : Src W b Y') (hg : Y.grownBy Y' (some b)) : Nw W w0 b base base2 g3 g4 c t cor del R v R2 v2 Y' :=
  ⟨h.rm.step hs hg, h.r2.step hs hg, h.r4.grown hg (fun e => h4 (by injection e)), h.r3.grown hg (fun e => h3 (by injection e)), grown_tr h.gro hg, h.lo⟩
theorem Nw.under (h : Nw W w0 b base base2 g3 g4 c t cor del R v R2 v2 Y) (hb : Below Y.heap.size Y Y') : Nw W w0 b base base2 g3 g4 c t cor del R v R2 v2 Y' :=
  ⟨h.rm.under hb, h.r2.under hb, h.r4.under hb, h.r3.under hb, grown_tr h.gro (grown_below hb), h.lo⟩
theorem Nw.put (h : Nw W w0 b base base2 g3 g4 c t cor del R v R2 v2 Y) (h34 : g4 ≠ g3) (h3 : g3 ≠ b) (hW : W.heap.size ≤ g3) (j : Nat) (x : Value) {c' : ByteArray} {t' cor' del' : Int} (he : (bulC c t cor del v2).setIfInBounds j x = bulC c' t' cor' del' v2) :
    Nw W w0 b base base2 g3 g4 c' t' cor' del' R v R2 v2 (Y.setCell ⟨g3, j, none⟩ x) :=
  ⟨h.rm.set h.r3 hW h3 j x, h.r2.set h.r3 hW h3 j x, h.r4.far (p := ⟨g3, j, none⟩) (Ne.symm h34) _, he ▸ h.r3.put j x, Pl.grown_set h.gro g3 j x h.lo.1 rfl, h.lo⟩
end
theorem Vd.cbd6 {k : Int} {nm : ByteArray} {t F A B C : Int} {L : List El.Elt.R} (h : Vd k nm t F A B C L) : 0 ≤ C ∧ C ≤ 1000000 := by
  have hp := h.place
  unfold plOk at hp
  by_cases k1 : k = 1
  · rw [if_pos k1] at hp
    simp only [Bool.and_eq_true, beq_iff_eq] at hp
    omega
  · rw [if_neg k1] at hp
    unfold nrm at hp
    obtain ⟨f, rfl, h1, h2, h3, h4, h5, h6, h7, h8⟩ := Pl.vb_to (Bool.and_eq_true_iff.1 hp).1
    omega
theorem set_cons8 (a0 a1 a2 a3 a4 a5 a6 a7 : Value) (l : List Value) (j i : Nat) (u : Value) (hi : i = j + 8) : (a0 :: a1 :: a2 :: a3 :: a4 :: a5 :: a6 :: a7 :: l).set i u = a0 :: a1 :: a2 :: a3 :: a4 :: a5 :: a6 :: a7 :: l.set j u := by
  subst hi
  rfl
theorem rpc_set8 : ∀ (R : List Rp) (k : Nat) (_ : k < R.length) (r : Rp), (((((((((rpc R).set (k * 8) (.int .i64 r.k)).set (k * 8 + 1) (.string r.nm)).set (k * 8 + 2) (.int .i64 r.t)).set (k * 8 + 3) (.int .i64 r.F)).set (k * 8 + 4) (.int .i64 r.A)).set (k * 8 + 5) (.int .i64 r.B)).set (k * 8 + 6) (.int .i64 r.C)).set (k * 8 + 7) r.u) = rpc (R.set k r)
  | _ :: _, 0, _, _ => rfl
  | x :: R, k + 1, h, r => by
    show ((((((((((.int .i64 x.k) :: (.string x.nm) :: (.int .i64 x.t) :: (.int .i64 x.F) :: (.int .i64 x.A) :: (.int .i64 x.B) :: (.int .i64 x.C) :: x.u :: rpc R : List Value).set ((k + 1) * 8) (.int .i64 r.k)).set ((k + 1) * 8 + 1) (.string r.nm)).set ((k + 1) * 8 + 2) (.int .i64 r.t)).set ((k + 1) * 8 + 3) (.int .i64 r.F)).set ((k + 1) * 8 + 4) (.int .i64 r.A)).set ((k + 1) * 8 + 5) (.int .i64 r.B)).set ((k + 1) * 8 + 6) (.int .i64 r.C)).set ((k + 1) * 8 + 7) r.u) = (.int .i64 x.k) :: (.string x.nm) :: (.int .i64 x.t) :: (.int .i64 x.F) :: (.int .i64 x.A) :: (.int .i64 x.B) :: (.int .i64 x.C) :: x.u :: rpc (R.set k r)
    rw [← rpc_set8 R k (Nat.lt_of_succ_lt_succ h) r, set_cons8 _ _ _ _ _ _ _ _ _ (k * 8) _ _ (by omega), set_cons8 _ _ _ _ _ _ _ _ _ (k * 8 + 1) _ _ (by omega), set_cons8 _ _ _ _ _ _ _ _ _ (k * 8 + 2) _ _ (by omega), set_cons8 _ _ _ _ _ _ _ _ _ (k * 8 + 3) _ _ (by omega), set_cons8 _ _ _ _ _ _ _ _ _ (k * 8 + 4) _ _ (by omega), set_cons8 _ _ _ _ _ _ _ _ _ (k * 8 + 5) _ _ (by omega), set_cons8 _ _ _ _ _ _ _ _ _ (k * 8 + 6) _ _ (by omega), set_cons8 _ _ _ _ _ _ _ _ _ (k * 8 + 7) _ _ (by omega)]
theorem own_sep {W : World} {b1 b2 s1 s2 n1 n2 : Nat} {e1 e2 : TypeId} {v1 v2 : Value} {x1 x2 : List Value} (h : W.ownsRow b1 e1 s1 v1 n1 x1) (k : W.ownsRow b2 e2 s2 v2 n2 x2) (hne : e1 ≠ e2) {i : Nat} (hi : v1.ownBlock = some i) : v2.ownBlock ≠ some i := fun hj => by
  obtain ⟨c1, h1, -⟩ := row_own h hi
  obtain ⟨c2, h2, -⟩ := row_own k hj
  rw [h1] at h2
  injection h2 with h2
  injection h2 with _ h2
  exact hne h2
/-- A report is stored into the new list. -/
theorem Nw.elem {W w0 Y : World} {b base base2 g3 g4 gr n co : Nat} {c : ByteArray} {t cor del : Int} {R R2 : List Rp} {v : Value} (h : Nw W w0 b base base2 g3 g4 c t cor del R v R2 (.slice (some ⟨gr, 0, none⟩) n co) Y) (hn : n = R2.length) (hv : ∀ i, v.ownBlock = some i → i < base2) (hW : W.heap.size ≤ base2) (k : Nat) (hk : k < R2.length) (r : Rp) (hr : ∃ base', b < base' ∧ Y.ownsRow base' 99 2 r.u r.L.length (El.rdc r.L)) :
    Nw W w0 b base base2 g3 g4 c t cor del R v (R2.set k r) (.slice (some ⟨gr, 0, none⟩) n co) ((((((((Y.setCell ⟨gr, k * 8, none⟩ (.int .i64 r.k)).setCell ⟨gr, k * 8 + 1, none⟩ (.string r.nm)).setCell ⟨gr, k * 8 + 2, none⟩ (.int .i64 r.t)).setCell ⟨gr, k * 8 + 3, none⟩ (.int .i64 r.F)).setCell ⟨gr, k * 8 + 4, none⟩ (.int .i64 r.A)).setCell ⟨gr, k * 8 + 5, none⟩ (.int .i64 r.B)).setCell ⟨gr, k * 8 + 6, none⟩ (.int .i64 r.C)).setCell ⟨gr, k * 8 + 7, none⟩ r.u) := by
  subst hn
  have hlo : base2 ≤ gr := (h.r2.own.lt gr rfl).1
  have n3 := El.own_ne h.r2.own h.r3 (by decide)
  have n4 := El.own_ne h.r2.own h.r4 (by decide)
  obtain ⟨cs, hsr⟩ := El.src_row h.r2.src
  have nb := El.own_ne h.r2.own hsr (by decide)
  have how := h.r2.own
  obtain ⟨o0, q0⟩ := how.stored (k * 8) (.int .i64 r.k)
  obtain ⟨o1, q1⟩ := o0.stored (k * 8 + 1) (.string r.nm)
  obtain ⟨o2, q2⟩ := o1.stored (k * 8 + 2) (.int .i64 r.t)
  obtain ⟨o3, q3⟩ := o2.stored (k * 8 + 3) (.int .i64 r.F)
  obtain ⟨o4, q4⟩ := o3.stored (k * 8 + 4) (.int .i64 r.A)
  obtain ⟨o5, q5⟩ := o4.stored (k * 8 + 5) (.int .i64 r.B)
  obtain ⟨o6, q6⟩ := o5.stored (k * 8 + 6) (.int .i64 r.C)
  obtain ⟨o7, q7⟩ := o6.stored (k * 8 + 7) r.u
  have hg := grown_tr (grown_tr (grown_tr (grown_tr (grown_tr (grown_tr (grown_tr q0 q1) q2) q3) q4) q5) q6) q7
  rw [rpc_set8 R2 k hk r] at o7
  clear o0 o1 o2 o3 o4 o5 o6 q0 q1 q2 q3 q4 q5 q6 q7
  generalize ((((((((Y.setCell ⟨gr, k * 8, none⟩ (.int .i64 r.k)).setCell ⟨gr, k * 8 + 1, none⟩ (.string r.nm)).setCell ⟨gr, k * 8 + 2, none⟩ (.int .i64 r.t)).setCell ⟨gr, k * 8 + 3, none⟩ (.int .i64 r.F)).setCell ⟨gr, k * 8 + 4, none⟩ (.int .i64 r.A)).setCell ⟨gr, k * 8 + 5, none⟩ (.int .i64 r.B)).setCell ⟨gr, k * 8 + 6, none⟩ (.int .i64 r.C)).setCell ⟨gr, k * 8 + 7, none⟩ r.u) = Y' at *
  have hs' : Src W b Y' := El.src_kept h.rm.src hg (fun e => nb e.symm) (fun i e => by injection e with e; omega)
  have key : ∀ {r0 : Rp}, (∃ base', b < base' ∧ Y.ownsRow base' 99 2 r0.u r0.L.length (El.rdc r0.L)) → ∃ base', b < base' ∧ Y'.ownsRow base' 99 2 r0.u r0.L.length (El.rdc r0.L) := fun {r0} hq => by
    obtain ⟨base', hb', ho⟩ := hq
    exact ⟨base', hb', own_heap ho (fun i hi => hg.block i (row_size ho hi) (fun e => own_sep h.r2.own ho (by decide) (i := i) (by rw [e]; rfl) hi))⟩
  refine ⟨⟨hs', h.rm.bb, own_heap h.rm.own (fun i hi => hg.block i (row_size h.rm.own hi) (fun e => by injection e with e; have := hv i hi; omega)), fun r0 hr0 => key (h.rm.rds r0 hr0)⟩, ⟨hs', h.r2.bb, ?_, fun r0 hr0 => ?_⟩, h.r4.grown hg n4, h.r3.grown hg n3, grown_more h.gro hg (by have := h.lo.2.2; omega), h.lo⟩
  · rw [List.length_set]
    exact o7
  · rcases List.mem_or_eq_of_mem_set hr0 with hm | rfl
    · exact key (h.r2.rds r0 hm)
    · exact key hr
theorem Nw.fin {W w0 Y : World} {b base base2 g3 g4 : Nat} {c : ByteArray} {t cor del : Int} {R R2 : List Rp} {v v2 : Value} (h : Nw W w0 b base base2 g3 g4 c t cor del R v R2 v2 Y) (h4 : g4 ≠ b) (hW : W.heap.size ≤ g4) (u0 u1 u2 u3 u4 : Value) :
    (RM W b base R v (((((Y.setCell ⟨g4, 0, none⟩ u0).setCell ⟨g4, 1, none⟩ u1).setCell ⟨g4, 2, none⟩ u2).setCell ⟨g4, 3, none⟩ u3).setCell ⟨g4, 4, none⟩ u4) ∧ RM W b base2 R2 v2 (((((Y.setCell ⟨g4, 0, none⟩ u0).setCell ⟨g4, 1, none⟩ u1).setCell ⟨g4, 2, none⟩ u2).setCell ⟨g4, 3, none⟩ u3).setCell ⟨g4, 4, none⟩ u4)) ∧ Row (((((Y.setCell ⟨g4, 0, none⟩ u0).setCell ⟨g4, 1, none⟩ u1).setCell ⟨g4, 2, none⟩ u2).setCell ⟨g4, 3, none⟩ u3).setCell ⟨g4, 4, none⟩ u4) g4 24 #[u0, u1, u2, u3, u4] ∧ w0.grownBy (((((Y.setCell ⟨g4, 0, none⟩ u0).setCell ⟨g4, 1, none⟩ u1).setCell ⟨g4, 2, none⟩ u2).setCell ⟨g4, 3, none⟩ u3).setCell ⟨g4, 4, none⟩ u4) (some b) := by
  have a0 := h.r4.put 0 u0
  have a1 := a0.put 1 u1
  have a2 := a1.put 2 u2
  have a3 := a2.put 3 u3
  exact ⟨⟨((((h.rm.set h.r4 hW h4 0 u0).set a0 hW h4 1 u1).set a1 hW h4 2 u2).set a2 hW h4 3 u3).set a3 hW h4 4 u4, ((((h.r2.set h.r4 hW h4 0 u0).set a0 hW h4 1 u1).set a1 hW h4 2 u2).set a2 hW h4 3 u3).set a3 hW h4 4 u4⟩, set5_row u0 u1 u2 u3 u4 h.r4, Pl.grown_set (Pl.grown_set (Pl.grown_set (Pl.grown_set (Pl.grown_set h.gro g4 0 u0 h.lo.2.1 rfl) g4 1 u1 h.lo.2.1 rfl) g4 2 u2 h.lo.2.1 rfl) g4 3 u3 h.lo.2.1 rfl) g4 4 u4 h.lo.2.1 rfl⟩
/-- What bent leaves. -/
structure BtO (W : World) (b base : Nat) (R : List Rp) (v : Value) (w : World) (e : Ending) (w' : World) : Prop where
  rm : RM W b base R v w'
  gro : w.grownBy w' (some b)
  ex : ∃ (c : ByteArray) (t cor del : Int) (v2 : Value) (R2 : List Rp), c.size ≤ 40 ∧ (∀ r ∈ R2, r.nm.size ≤ 40) ∧ e = .returned (bulV c t cor del v2) ∧ RM W b w.heap.size R2 v2 w'
set_option maxRecDepth 100000 in
set_option maxHeartbeats 4000000 in
theorem bent6_any (W : World) (b base : Nat) (w : World) (c : ByteArray) (t cor del : Int) (R : List Rp) (v : Value) (h : RM W b base R v w) (hV : VdB c t cor del R) (hl : R.length ≤ 5) :
    Calls Tryz.prog 14 #[.pointer (some ⟨b, 0, none⟩), bulV c t cor del v] w (BtO W b base R v w) := by
  obtain ⟨Ar, cr, er⟩ := row_form h.own
  subst er
  have hbl := src_lt h.src
  have hW := h.src.below.size
  obtain ⟨i0, hi, hz0, hz1, hz2⟩ := info_parts infoReport
  obtain ⟨hnone, hcl⟩ := own_cells h.own
  have b1 := (Below.refl w.heap.size w).alloc (Nat.le_refl _) (.cells (bulC c t cor del (.slice Ar R.length cr)) 24)
  have r1 := Row.new w (bulC c t cor del (.slice Ar R.length cr)) 24
  have z1 : (w.alloc (.cells (bulC c t cor del (.slice Ar R.length cr)) 24)).heap.size = w.heap.size + 1 := by simp
  go_enter Tryz.func14, Tryz.ntmps14
  go_upto_region 1 with fail
  generalize w.alloc (.cells (bulC c t cor del (.slice Ar R.length cr)) 24) = W1 at *
  have b2 := b1.alloc b1.size (.cells (bulC ⟨#[]⟩ 0 0 0 (.slice none 0 0)) 24)
  have r2 := r1.alloc (.cells (bulC ⟨#[]⟩ 0 0 0 (.slice none 0 0)) 24)
  have q2 := Row.new W1 (bulC ⟨#[]⟩ 0 0 0 (.slice none 0 0)) 24
  generalize W1.alloc (.cells (bulC ⟨#[]⟩ 0 0 0 (.slice none 0 0)) 24) = W2 at *
  try rw [z1] at *
  have hb2 := Lib.hid b2
  have R3 := Lib.hid (r2.alloc (.cells #[] 53))
  have Q3 := Lib.hid (q2.alloc (.cells #[] 53))
  have b3 : Below w.heap.size w (W2.alloc (.cells #[] 53)) := b2.alloc b2.size _
  have HN := Lib.hid hnone
  have HOW := Lib.hid (show (W2.alloc (.cells #[] 53)).ownsRow w.heap.size 53 8 (.slice (some ⟨W2.heap.size, 0, none⟩) 0 0) 0 [] from World.ownsRow_lit W2 #[] 0 b2.size (by decide) rfl)
  have HS := Lib.hid (show ∀ ad, Ar = some ad → ∀ (j : Nat) u, (rpc R)[j]? = some u → (W2.alloc (.cells #[] 53)).cell? (ad.add j) = some u from fun ad e j u hu => by
    have h0 := hcl ad e j u hu
    have hlt : ad.block < w.heap.size := by
      have := row_size h.own (i := ad.block) (by rw [e]; rfl)
      exact this
    have hsp : (ad.add j).block = ad.block := by unfold Addr.add; split <;> rfl
    exact (b3.cell (p := ad.add j) (by rw [hsp]; exact hlt)).trans h0)
  have hlt3 := r2.lt
  have hlt4 := q2.lt
  have GO := Lib.hid (show ∀ (vn : Value) (X : World), X.ownsRow w.heap.size 53 8 vn R.length (rpc R) → (W2.alloc (.cells #[] 53)).grownBy X (some W2.heap.size) → Nw W w b base w.heap.size w.heap.size (w.heap.size + 1) c t cor del R (.slice Ar R.length cr) R vn X → True from fun _ _ _ _ _ => trivial)
  have GN := Lib.hid (show ∀ (vn : Value) (X : World), X.ownsRow w.heap.size 53 8 vn R.length (rpc R) → (W2.alloc (.cells #[] 53)).grownBy X (some W2.heap.size) →
      RM W b base R (.slice Ar R.length cr) X ∧ RM W b w.heap.size R vn X ∧ Row X (w.heap.size + 1) 24 (bulC ⟨#[]⟩ 0 0 0 (.slice none 0 0)) ∧ Row X w.heap.size 24 (bulC c t cor del (.slice Ar R.length cr)) ∧ w.grownBy X (some b) from fun vn X ho hg => by
    have h1 := h.grown b3 hg (by have := b2.size; omega) hW
    have n1 : some w.heap.size ≠ some W2.heap.size := fun e => by injection e with e; omega
    have n2 : some (w.heap.size + 1) ≠ some W2.heap.size := fun e => by injection e with e; omega
    exact ⟨h1, ⟨h1.src, hbl, ho, h1.rds⟩, Q3.out.grown hg n2, R3.out.grown hg n1, grown_more (grown_below b3) hg (by have := b2.size; omega)⟩)
  have h3b : w.heap.size ≠ b := by omega
  have h4b : w.heap.size + 1 ≠ b := by omega
  have h34 : w.heap.size ≠ w.heap.size + 1 := by omega
  have h43 : w.heap.size + 1 ≠ w.heap.size := by omega
  have HLR := rpc_len R
  have HO1 := Lib.hid (rpc_one5 R (fun r hr => by obtain ⟨base', -, ho⟩ := h.rds r hr; obtain ⟨A, c, e⟩ := row_form ho; exact ⟨A, _, c, e⟩))
  have HIN := Lib.hid (show ∀ (vn : Value) (X : World), X.ownsRow w.heap.size 53 8 vn R.length (rpc R) → ∃ (A' : Option Addr) (c' : Nat), vn = .slice A' R.length c' from fun vn X ho => row_form ho)
  obtain ⟨c0, c1, c2, c3, c4⟩ := row5 r2
  have hb0 : w.heap.size ≤ (W2.alloc (.cells #[] 53)).heap.size := b3.size
  clear b1 r1 b2 r2 q2 z1 hb2 R3 Q3 b3 hcl hnone GO
  go_wp2_with (at_builtin; go_loud (refine El.wpList_append_fresh rfl (.tmp 6) (.tmp 8) 22 rfl w.heap.size 53 i0 (repV 0 ⟨#[]⟩ 0 0 0 0 0 (.slice none 0 0)) 8 88 Tryz.underlying22 hi hz0 hz1 hz2 rfl (by decide) W2.heap.size rfl HOW.out Ar R.length cr (rpc R) rfl HLR HN.out HS.out HO1.out (by unfold maxLen; omega) (by omega) hb0 ?_; intro vn X hown hgr; obtain ⟨X1, X2, X4, X3, X5⟩ := GN.out vn X hown hgr; obtain ⟨Ao, co, rfl⟩ := HIN.out vn X hown; obtain ⟨-, -, -, -, p4⟩ := row5 X3; have f4 := X3.thaw 4; have IX : Hid (Nw W w b base w.heap.size w.heap.size (w.heap.size + 1) c t cor del R (.slice Ar R.length cr) R (.slice Ao R.length co) (X.setCell ⟨w.heap.size, 4, none⟩ (.slice Ao R.length co))) := Lib.hid ⟨X1.set X3 hW h3b 4 _, X2.set X3 hW h3b 4 _, X4.far (p := ⟨w.heap.size, 4, none⟩) h34 _, X3.put 4 _, Pl.grown_set X5 w.heap.size 4 _ (Nat.le_refl _) rfl, ⟨Nat.le_refl _, Nat.le_succ _, Nat.le_refl _⟩⟩; clear X1 X2 X3 X4 X5 hown hgr))
  refine (n_any W b _ 6 IX.out.rm.src (by decide) (by decide)).mono ?_
  rintro e Y1 ⟨x, ⟨x1, x2⟩, rfl, s1, g1⟩
  have J := Lib.hid (IX.out.step h4b h3b s1 g1)
  clear s1 g1 p4 f4 IX HN HS GN HOW HIN HO1 HLR c0 c1 c2 c3 c4 hlt3 hlt4
  have hc40 : c.size ≤ 40 := by
    have h := hV.hctr
    unfold ctr at h
    rw [Bool.and_eq_true, decide_eq_true_iff] at h
    omega
  have HNS := Lib.hid (fun r (hr : r ∈ R) => (hV.hreps r hr).1)
  have HB := Lib.hid (fun (i : Nat) (e : (Value.slice Ar R.length cr).ownBlock = some i) => row_size h.own e)
  have ht := hV.htime
  have hl6 := hl
  clear h hV hl
  generalize hg3 : w.heap.size = g3 at *
  have HG3 := Lib.hid hg3
  clear hg3
  rcases (by omega : x = 0 ∨ x = 1 ∨ x = 2 ∨ x = 3 ∨ x = 4 ∨ x = 5) with rfl | rfl | rfl | rfl | rfl | rfl
  · have JB := (Below.refl Y1.heap.size Y1).alloc (Nat.le_refl _) (.cells #[.string ⟨#[]⟩, .string ⟨#[69, 68, 90]⟩, .string ⟨#[101, 100, 122, 119]⟩, .string ⟨#[69, 68, 90, 87, 49]⟩] 9)
    have rr := Row.new Y1 #[.string ⟨#[]⟩, .string ⟨#[69, 68, 90]⟩, .string ⟨#[101, 100, 122, 119]⟩, .string ⟨#[69, 68, 90, 87, 49]⟩] 9
    have JNE : Y1.heap.size ≠ b := Nat.ne_of_gt (src_lt J.out.rm.src)
    have d0 := (rr.cell 0).trans rfl
    have d1 := (rr.cell 1).trans rfl
    have d2 := (rr.cell 2).trans rfl
    have d3 := (rr.cell 3).trans rfl
    have JLT := rr.lt
    go_wp2_with fail
    refine (text_any (fun x => x.size ≤ 40) W b _ _ _ _ (J.out.rm.src.under JB) (by omega) (by omega) JNE JLT (fun i hi => by
      rcases (by omega : i = 0 ∨ i = 1 ∨ i = 2 ∨ i = 3) with rfl | rfl | rfl | rfl
      · exact ⟨_, d0, by decide⟩
      · exact ⟨_, d1, by decide⟩
      · exact ⟨_, d2, by decide⟩
      · exact ⟨_, d3, by decide⟩)).mono ?_
    rintro e Y2 ⟨y, hy, rfl, s2, g2⟩
    have J2 := Lib.hid ((J.out.under JB).step h4b h3b s2 g2)
    clear s2 g2 J
    obtain ⟨p0, p1, p2, p3, p4⟩ := row5 J2.out.r3
    have fz := J2.out.r3.thaw 0
    have J9 := Lib.hid (J2.out.put h43 h3b (by omega) 0 (.string y) (show _ = bulC y t cor del (.slice Ao R.length co) from rfl))
    clear J2
    go_upto_region 16 with fail
    clear p0 p1 p2 p3 p4 fz
    refine forget (Nw W w b base g3 g3 (g3 + 1) y t cor del R (.slice Ar R.length cr) R (.slice Ao R.length co)) J9.out ?_
    clear J9
    rintro Z I
    obtain ⟨p0, p1, p2, p3, p4⟩ := row5 I.r3
    have f0 := I.r4.thaw 0
    have f1 := I.r4.thaw 1
    have f2 := I.r4.thaw 2
    have f3 := I.r4.thaw 3
    have f4 := I.r4.thaw 4
    obtain ⟨q0, q1, q2, q3, q4⟩ := row5 I.r4
    have HZ := Lib.hid (I.fin h4b (by omega) (.string y) (.int .i64 t) (.int .i64 cor) (.int .i64 del) (.slice Ao R.length co))
    clear I
    go_wp2_with fail
    clear f0 f1 f2 f3 f4 q0 q1 q2 q3 q4 p0 p1 p2 p3 p4
    exact bodyPost_ret (v := bulV y t cor del (.slice Ao R.length co)) (by obtain ⟨z0, z1, z2, z3, z4⟩ := row5 HZ.out.2.1; simp [results, Tryz.results14, z0, z1, z2, z3, z4, go_sem]) rfl ⟨HZ.out.1.1, HZ.out.2.2, ⟨y, t, cor, del, _, R, hy, fun r hr => (HNS.out r hr).short, rfl, by rw [HG3.out]; exact HZ.out.1.2⟩⟩
  · have JB := (Below.refl Y1.heap.size Y1).alloc (Nat.le_refl _) (.cells #[.int .i64 (-1), .int .i64 0, .int .i64 52595999, .int .i64 52596000] 3)
    have rr := Row.new Y1 #[.int .i64 (-1), .int .i64 0, .int .i64 52595999, .int .i64 52596000] 3
    have JNE : Y1.heap.size ≠ b := Nat.ne_of_gt (src_lt J.out.rm.src)
    have d0 := (rr.cell 0).trans rfl
    have d1 := (rr.cell 1).trans rfl
    have d2 := (rr.cell 2).trans rfl
    have d3 := (rr.cell 3).trans rfl
    have JLT := rr.lt
    go_wp2_with fail
    refine (pick_any (fun _ => True) W b _ _ _ _ (J.out.rm.src.under JB) (by omega) (by omega) JNE JLT (fun i hi => by
      rcases (by omega : i = 0 ∨ i = 1 ∨ i = 2 ∨ i = 3) with rfl | rfl | rfl | rfl
      · exact ⟨_, d0, trivial⟩
      · exact ⟨_, d1, trivial⟩
      · exact ⟨_, d2, trivial⟩
      · exact ⟨_, d3, trivial⟩)).mono ?_
    rintro e Y2 ⟨y, -, rfl, s2, g2⟩
    have J2 := Lib.hid ((J.out.under JB).step h4b h3b s2 g2)
    clear s2 g2 J
    obtain ⟨p0, p1, p2, p3, p4⟩ := row5 J2.out.r3
    have fz := J2.out.r3.thaw 1
    have J9 := Lib.hid (J2.out.put h43 h3b (by omega) 1 (.int .i64 y) (show _ = bulC c y cor del (.slice Ao R.length co) from rfl))
    clear J2
    go_upto_region 16 with fail
    clear p0 p1 p2 p3 p4 fz
    refine forget (Nw W w b base g3 g3 (g3 + 1) c y cor del R (.slice Ar R.length cr) R (.slice Ao R.length co)) J9.out ?_
    clear J9
    rintro Z I
    obtain ⟨p0, p1, p2, p3, p4⟩ := row5 I.r3
    have f0 := I.r4.thaw 0
    have f1 := I.r4.thaw 1
    have f2 := I.r4.thaw 2
    have f3 := I.r4.thaw 3
    have f4 := I.r4.thaw 4
    obtain ⟨q0, q1, q2, q3, q4⟩ := row5 I.r4
    have HZ := Lib.hid (I.fin h4b (by omega) (.string c) (.int .i64 y) (.int .i64 cor) (.int .i64 del) (.slice Ao R.length co))
    clear I
    go_wp2_with fail
    clear f0 f1 f2 f3 f4 q0 q1 q2 q3 q4 p0 p1 p2 p3 p4
    exact bodyPost_ret (v := bulV c y cor del (.slice Ao R.length co)) (by obtain ⟨z0, z1, z2, z3, z4⟩ := row5 HZ.out.2.1; simp [results, Tryz.results14, z0, z1, z2, z3, z4, go_sem]) rfl ⟨HZ.out.1.1, HZ.out.2.2, ⟨c, y, cor, del, _, R, hc40, fun r hr => (HNS.out r hr).short, rfl, by rw [HG3.out]; exact HZ.out.1.2⟩⟩
  · go_wp2_with fail
    refine (range_any W b _ _ _ J.out.rm.src (by decide) (by decide) (by decide) (by decide)).mono ?_
    rintro e Y2 ⟨y, -, rfl, s2, g2⟩
    have J2 := Lib.hid (J.out.step h4b h3b s2 g2)
    clear s2 g2 J
    obtain ⟨p0, p1, p2, p3, p4⟩ := row5 J2.out.r3
    have fz := J2.out.r3.thaw 2
    have J9 := Lib.hid (J2.out.put h43 h3b (by omega) 2 (.int .i64 y) (show _ = bulC c t y del (.slice Ao R.length co) from rfl))
    clear J2
    go_upto_region 16 with fail
    clear p0 p1 p2 p3 p4 fz
    refine forget (Nw W w b base g3 g3 (g3 + 1) c t y del R (.slice Ar R.length cr) R (.slice Ao R.length co)) J9.out ?_
    clear J9
    rintro Z I
    obtain ⟨p0, p1, p2, p3, p4⟩ := row5 I.r3
    have f0 := I.r4.thaw 0
    have f1 := I.r4.thaw 1
    have f2 := I.r4.thaw 2
    have f3 := I.r4.thaw 3
    have f4 := I.r4.thaw 4
    obtain ⟨q0, q1, q2, q3, q4⟩ := row5 I.r4
    have HZ := Lib.hid (I.fin h4b (by omega) (.string c) (.int .i64 t) (.int .i64 y) (.int .i64 del) (.slice Ao R.length co))
    clear I
    go_wp2_with fail
    clear f0 f1 f2 f3 f4 q0 q1 q2 q3 q4 p0 p1 p2 p3 p4
    exact bodyPost_ret (v := bulV c t y del (.slice Ao R.length co)) (by obtain ⟨z0, z1, z2, z3, z4⟩ := row5 HZ.out.2.1; simp [results, Tryz.results14, z0, z1, z2, z3, z4, go_sem]) rfl ⟨HZ.out.1.1, HZ.out.2.2, ⟨c, t, y, del, _, R, hc40, fun r hr => (HNS.out r hr).short, rfl, by rw [HG3.out]; exact HZ.out.1.2⟩⟩
  · go_wp2_with fail
    refine (range_any W b _ _ _ J.out.rm.src (by decide) (by decide) (by decide) (by decide)).mono ?_
    rintro e Y2 ⟨y, -, rfl, s2, g2⟩
    have J2 := Lib.hid (J.out.step h4b h3b s2 g2)
    clear s2 g2 J
    obtain ⟨p0, p1, p2, p3, p4⟩ := row5 J2.out.r3
    have fz := J2.out.r3.thaw 3
    have J9 := Lib.hid (J2.out.put h43 h3b (by omega) 3 (.int .i64 y) (show _ = bulC c t cor y (.slice Ao R.length co) from rfl))
    clear J2
    go_upto_region 16 with fail
    clear p0 p1 p2 p3 p4 fz
    refine forget (Nw W w b base g3 g3 (g3 + 1) c t cor y R (.slice Ar R.length cr) R (.slice Ao R.length co)) J9.out ?_
    clear J9
    rintro Z I
    obtain ⟨p0, p1, p2, p3, p4⟩ := row5 I.r3
    have f0 := I.r4.thaw 0
    have f1 := I.r4.thaw 1
    have f2 := I.r4.thaw 2
    have f3 := I.r4.thaw 3
    have f4 := I.r4.thaw 4
    obtain ⟨q0, q1, q2, q3, q4⟩ := row5 I.r4
    have HZ := Lib.hid (I.fin h4b (by omega) (.string c) (.int .i64 t) (.int .i64 cor) (.int .i64 y) (.slice Ao R.length co))
    clear I
    go_wp2_with fail
    clear f0 f1 f2 f3 f4 q0 q1 q2 q3 q4 p0 p1 p2 p3 p4
    exact bodyPost_ret (v := bulV c t cor y (.slice Ao R.length co)) (by obtain ⟨z0, z1, z2, z3, z4⟩ := row5 HZ.out.2.1; simp [results, Tryz.results14, z0, z1, z2, z3, z4, go_sem]) rfl ⟨HZ.out.1.1, HZ.out.2.2, ⟨c, t, cor, y, _, R, hc40, fun r hr => (HNS.out r hr).short, rfl, by rw [HG3.out]; exact HZ.out.1.2⟩⟩
  · go_upto_region 15 with fail
    refine wp_region_held_drew (S := fun _ : World => True) (by kernel_rfl) trivial (fun hHeld => ?_)
    refine wpAnyH_take (i := 0) (oi := ⟨some 57, _, _, _, _, none⟩) (v := ?_) rfl (by kernel_rfl) (by kernel_rfl) (by kernel_rfl) (fun _ _ _ h => h) (Or.inl ⟨by rfl, ?_⟩) (by assumption) ?_
    case refine_2 => (intro wx hSx; (try dsimp only at hSx); go_simp; first | done | with_reducible rfl)
    try simp only [Act.put, List.setIfInBounds_toArray, List.set_cons_zero, List.set_cons_succ]
    refine wpAnyH_take (i := 2) (oi := ⟨some 59, _, _, _, _, none⟩) (v := ?_) rfl (by kernel_rfl) (by kernel_rfl) (by kernel_rfl) (fun _ _ _ h => h) (Or.inl ⟨by rfl, ?_⟩) (by assumption) ?_
    case refine_2 => (intro wx hSx; (try dsimp only at hSx); go_simp; first | done | with_reducible rfl)
    try simp only [Act.put, List.setIfInBounds_toArray, List.set_cons_zero, List.set_cons_succ]
    have J1 := Lib.hid (J.out.under (show Below Y1.heap.size Y1 Y1.drew from ⟨rfl, rfl, rfl, Nat.le_refl _, fun _ _ => rfl⟩))
    clear J
    refine El.genH (fun X => Nw W w b base g3 g3 (g3 + 1) c t cor del R (.slice Ar R.length cr) R (.slice Ao R.length co) X) J1.out ?_
    clear J1
    intro X I
    have I := Lib.hid I
    refine wpAnyH_ready (rs := [1, 3]) (by kernel_rfl) (by simp) ?_
    refine AllReadyH.cons (o := ⟨some 58, _, _, _, _, none⟩) rfl (fun K hK => ?_) (AllReadyH.cons (o := ⟨some 60, _, _, _, _, none⟩) rfl (fun K hK => ?_) AllReadyH.nil)
    · obtain ⟨-, p1, -, -, -⟩ := row5 I.out.r3
      go_simp
      refine hK.out _ _ trivial (fun _ => ?_)
      clear hK K p1
      try simp only [Act.put]
      refine wpAnyH_ready (rs := [3]) (by kernel_rfl) (by simp) ?_
      refine AllReadyH.cons (o := ⟨some 60, _, _, _, _, none⟩) rfl (fun K hK => ?_) AllReadyH.nil
      go_simp
      refine (range_any W b _ _ _ I.out.rm.src (by decide) (by decide) (by decide) (by decide)).mono ?_
      rintro e X1 ⟨y, ⟨y1, y2⟩, rfl, s1, g1⟩
      have J1 := Lib.hid (I.out.step h4b h3b s1 g1)
      clear s1 g1 I
      go_wp2_with fail
      refine hK.out _ _ trivial (fun _ => ?_)
      clear hK K
      try simp only [Act.put]
      refine El.genH (fun X => Nw W w b base g3 g3 (g3 + 1) c t cor del R (.slice Ar R.length cr) R (.slice Ao R.length co) X) J1.out ?_
      clear J1
      intro X I
      have I := Lib.hid I
      have hw : IntKind.i64.wrap (t - y) = t - y := IntWalk.i64_in _ (by omega)
      refine wpAnyH_take (i := 4) (oi := ⟨some 61, _, _, _, _, none⟩) (v := ?_) rfl (by kernel_rfl) (by kernel_rfl) (by kernel_rfl) (fun _ _ _ h => h) (Or.inl ⟨by rfl, ?_⟩) (by assumption) ?_
      case refine_2 => (intro wx hSx; (try dsimp only at hSx); go_simp; first | done | with_reducible rfl)
      try simp only [Act.put, List.setIfInBounds_toArray, List.set_cons_zero, List.set_cons_succ]
      refine wpAnyH_ready (rs := [5]) (by kernel_rfl) (by simp) ?_
      refine AllReadyH.cons (o := ⟨some 62, _, _, _, _, none⟩) rfl (fun K hK => ?_) AllReadyH.nil
      go_simp
      refine hK.out _ _ trivial (fun _ => ?_)
      clear hK K
      try simp only [Act.put]
      refine wpAnyH_take (i := 6) (oi := ⟨some 63, _, _, _, _, none⟩) (v := ?_) rfl (by kernel_rfl) (by kernel_rfl) (by kernel_rfl) (fun _ _ _ h => h) (Or.inl ⟨by rfl, ?_⟩) (by assumption) ?_
      case refine_2 => (intro wx hSx; (try dsimp only at hSx); go_simp; first | done | with_reducible rfl)
      try simp only [Act.put, List.setIfInBounds_toArray, List.set_cons_zero, List.set_cons_succ]
      refine wpAnyH_ready (rs := [7]) (by kernel_rfl) (by simp) ?_
      refine AllReadyH.cons (o := ⟨none, _, _, _, _, none⟩) rfl (fun K hK => ?_) AllReadyH.nil
      obtain ⟨p0, p1, p2, p3, p4⟩ := row5 I.out.r3
      have fz := I.out.r3.thaw 1
      have J9 := Lib.hid (fun z : Int => I.out.put h43 h3b (by omega) 1 (.int .i64 z) (show _ = bulC c z cor del (.slice Ao R.length co) from rfl))
      clear I
      go_simp
      refine hK.out _ _ trivial (fun _ => ?_)
      clear hK K p0 p1 p2 p3 p4 fz
      try simp only [Act.put]
      refine El.genH (fun X => ∃ z : Int, Nw W w b base g3 g3 (g3 + 1) c z cor del R (.slice Ar R.length cr) R (.slice Ao R.length co) X) ⟨_, (J9.out _).under ⟨rfl, rfl, rfl, Nat.le_refl _, fun _ _ => rfl⟩⟩ ?_
      clear J9
      rintro X ⟨z, J9⟩
      have J9 := Lib.hid J9
      refine wpAnyH_done (by kernel_rfl) ?_ _
      go_upto_region 16 with fail
      refine forget (Nw W w b base g3 g3 (g3 + 1) c z cor del R (.slice Ar R.length cr) R (.slice Ao R.length co)) J9.out ?_
      clear J9
      rintro Z I
      obtain ⟨p0, p1, p2, p3, p4⟩ := row5 I.r3
      have f0 := I.r4.thaw 0
      have f1 := I.r4.thaw 1
      have f2 := I.r4.thaw 2
      have f3 := I.r4.thaw 3
      have f4 := I.r4.thaw 4
      obtain ⟨q0, q1, q2, q3, q4⟩ := row5 I.r4
      have HZ := Lib.hid (I.fin h4b (by omega) (.string c) (.int .i64 z) (.int .i64 cor) (.int .i64 del) (.slice Ao R.length co))
      clear I
      go_wp2_with fail
      clear f0 f1 f2 f3 f4 q0 q1 q2 q3 q4 p0 p1 p2 p3 p4
      exact bodyPost_ret (v := bulV c z cor del (.slice Ao R.length co)) (by obtain ⟨z0, z1, z2, z3, z4⟩ := row5 HZ.out.2.1; simp [results, Tryz.results14, z0, z1, z2, z3, z4, go_sem]) rfl ⟨HZ.out.1.1, HZ.out.2.2, ⟨c, z, cor, del, _, R, hc40, fun r hr => (HNS.out r hr).short, rfl, by rw [HG3.out]; exact HZ.out.1.2⟩⟩
    · go_simp
      refine (range_any W b _ _ _ I.out.rm.src (by decide) (by decide) (by decide) (by decide)).mono ?_
      rintro e X1 ⟨y, ⟨y1, y2⟩, rfl, s1, g1⟩
      have J1 := Lib.hid (I.out.step h4b h3b s1 g1)
      clear s1 g1 I
      go_wp2_with fail
      refine hK.out _ _ trivial (fun _ => ?_)
      clear hK K
      try simp only [Act.put]
      refine El.genH (fun X => Nw W w b base g3 g3 (g3 + 1) c t cor del R (.slice Ar R.length cr) R (.slice Ao R.length co) X) J1.out ?_
      clear J1
      intro X I
      have I := Lib.hid I
      refine wpAnyH_ready (rs := [1]) (by kernel_rfl) (by simp) ?_
      refine AllReadyH.cons (o := ⟨some 58, _, _, _, _, none⟩) rfl (fun K hK => ?_) AllReadyH.nil
      obtain ⟨-, p1, -, -, -⟩ := row5 I.out.r3
      go_simp
      refine hK.out _ _ trivial (fun _ => ?_)
      clear hK K p1
      try simp only [Act.put]
      have hw : IntKind.i64.wrap (t - y) = t - y := IntWalk.i64_in _ (by omega)
      refine wpAnyH_take (i := 4) (oi := ⟨some 61, _, _, _, _, none⟩) (v := ?_) rfl (by kernel_rfl) (by kernel_rfl) (by kernel_rfl) (fun _ _ _ h => h) (Or.inl ⟨by rfl, ?_⟩) (by assumption) ?_
      case refine_2 => (intro wx hSx; (try dsimp only at hSx); go_simp; first | done | with_reducible rfl)
      try simp only [Act.put, List.setIfInBounds_toArray, List.set_cons_zero, List.set_cons_succ]
      refine wpAnyH_ready (rs := [5]) (by kernel_rfl) (by simp) ?_
      refine AllReadyH.cons (o := ⟨some 62, _, _, _, _, none⟩) rfl (fun K hK => ?_) AllReadyH.nil
      go_simp
      refine hK.out _ _ trivial (fun _ => ?_)
      clear hK K
      try simp only [Act.put]
      refine wpAnyH_take (i := 6) (oi := ⟨some 63, _, _, _, _, none⟩) (v := ?_) rfl (by kernel_rfl) (by kernel_rfl) (by kernel_rfl) (fun _ _ _ h => h) (Or.inl ⟨by rfl, ?_⟩) (by assumption) ?_
      case refine_2 => (intro wx hSx; (try dsimp only at hSx); go_simp; first | done | with_reducible rfl)
      try simp only [Act.put, List.setIfInBounds_toArray, List.set_cons_zero, List.set_cons_succ]
      refine wpAnyH_ready (rs := [7]) (by kernel_rfl) (by simp) ?_
      refine AllReadyH.cons (o := ⟨none, _, _, _, _, none⟩) rfl (fun K hK => ?_) AllReadyH.nil
      obtain ⟨p0, p1, p2, p3, p4⟩ := row5 I.out.r3
      have fz := I.out.r3.thaw 1
      have J9 := Lib.hid (fun z : Int => I.out.put h43 h3b (by omega) 1 (.int .i64 z) (show _ = bulC c z cor del (.slice Ao R.length co) from rfl))
      clear I
      go_simp
      refine hK.out _ _ trivial (fun _ => ?_)
      clear hK K p0 p1 p2 p3 p4 fz
      try simp only [Act.put]
      refine El.genH (fun X => ∃ z : Int, Nw W w b base g3 g3 (g3 + 1) c z cor del R (.slice Ar R.length cr) R (.slice Ao R.length co) X) ⟨_, (J9.out _).under ⟨rfl, rfl, rfl, Nat.le_refl _, fun _ _ => rfl⟩⟩ ?_
      clear J9
      rintro X ⟨z, J9⟩
      have J9 := Lib.hid J9
      refine wpAnyH_done (by kernel_rfl) ?_ _
      go_upto_region 16 with fail
      refine forget (Nw W w b base g3 g3 (g3 + 1) c z cor del R (.slice Ar R.length cr) R (.slice Ao R.length co)) J9.out ?_
      clear J9
      rintro Z I
      obtain ⟨p0, p1, p2, p3, p4⟩ := row5 I.r3
      have f0 := I.r4.thaw 0
      have f1 := I.r4.thaw 1
      have f2 := I.r4.thaw 2
      have f3 := I.r4.thaw 3
      have f4 := I.r4.thaw 4
      obtain ⟨q0, q1, q2, q3, q4⟩ := row5 I.r4
      have HZ := Lib.hid (I.fin h4b (by omega) (.string c) (.int .i64 z) (.int .i64 cor) (.int .i64 del) (.slice Ao R.length co))
      clear I
      go_wp2_with fail
      clear f0 f1 f2 f3 f4 q0 q1 q2 q3 q4 p0 p1 p2 p3 p4
      exact bodyPost_ret (v := bulV c z cor del (.slice Ao R.length co)) (by obtain ⟨z0, z1, z2, z3, z4⟩ := row5 HZ.out.2.1; simp [results, Tryz.results14, z0, z1, z2, z3, z4, go_sem]) rfl ⟨HZ.out.1.1, HZ.out.2.2, ⟨c, z, cor, del, _, R, hc40, fun r hr => (HNS.out r hr).short, rfl, by rw [HG3.out]; exact HZ.out.1.2⟩⟩
  · go_upto_region 3 with fail
    by_cases hL0 : R.length = 0
    · have q0 : ¬ (0 : Int) < (R.length : Int) := by omega
      have q1 : ¬ 0 < R.length := by omega
      clear hL0
      obtain ⟨p0, p1, p2, p3, p4⟩ := row5 J.out.r3
      have J9 := Lib.hid J.out
      clear J
      go_upto_region 16 with fail
      clear p0 p1 p2 p3 p4
      refine forget (Nw W w b base g3 g3 (g3 + 1) c t cor del R (.slice Ar R.length cr) R (.slice Ao R.length co)) J9.out ?_
      clear J9
      rintro Z I
      obtain ⟨p0, p1, p2, p3, p4⟩ := row5 I.r3
      have f0 := I.r4.thaw 0
      have f1 := I.r4.thaw 1
      have f2 := I.r4.thaw 2
      have f3 := I.r4.thaw 3
      have f4 := I.r4.thaw 4
      obtain ⟨q0, q1, q2, q3, q4⟩ := row5 I.r4
      have HZ := Lib.hid (I.fin h4b (by omega) (.string c) (.int .i64 t) (.int .i64 cor) (.int .i64 del) (.slice Ao R.length co))
      clear I
      go_wp2_with fail
      clear f0 f1 f2 f3 f4 q0 q1 q2 q3 q4 p0 p1 p2 p3 p4
      exact bodyPost_ret (v := bulV c t cor del (.slice Ao R.length co)) (by obtain ⟨z0, z1, z2, z3, z4⟩ := row5 HZ.out.2.1; simp [results, Tryz.results14, z0, z1, z2, z3, z4, go_sem]) rfl ⟨HZ.out.1.1, HZ.out.2.2, ⟨c, t, cor, del, _, R, hc40, fun r hr => (HNS.out r hr).short, rfl, by rw [HG3.out]; exact HZ.out.1.2⟩⟩
    · have q0 : (0 : Int) < (R.length : Int) := by omega
      obtain ⟨gr, rfl⟩ : ∃ g, Ao = some ⟨g, 0, none⟩ := by
        rcases J.out.r2.own.2 with ⟨-, h0⟩ | ⟨g, cap, cur, e, -⟩
        · exact absurd h0 hL0
        · injection e with e _ _; exact ⟨g, e⟩
      clear hL0
      have q1 : (1 : Int) ≤ (R.length : Int) := by omega
      obtain ⟨p0, p1, p2, p3, p4⟩ := row5 J.out.r3
      go_wp2_with fail
      refine (n_any W b _ _ J.out.rm.src (by omega) (by omega)).mono ?_
      rintro e Y2 ⟨k, ⟨k1, k2⟩, rfl, s2, g2⟩
      obtain ⟨i, rfl⟩ := Int.eq_ofNat_of_zero_le k1
      have J2 := Lib.hid (J.out.step h4b h3b s2 g2)
      clear s2 g2 J p0 p1 p2 p3 p4
      go_upto_region 5 with fail
      have iL : i < R.length := by omega
      obtain ⟨-, -, -, -, p4⟩ := row5 J2.out.r3
      refine wp_region_held_drew (S := fun w' : World => w'.cell? ⟨g3, 4, none⟩ = some (.slice (some ⟨gr, 0, none⟩) R.length co)) (by kernel_rfl) p4 (fun hHeld => ?_)
      clear p4
      refine wpAnyH_take (i := 0) (v := ?_) rfl (by kernel_rfl) (by kernel_rfl) (by kernel_rfl) (fun _ _ _ h => h) (Or.inl ⟨by rfl, ?_⟩) (by assumption) ?_
      case refine_2 => (intro wx hSx; (try dsimp only at hSx); go_simp; first | done | with_reducible rfl)
      try simp only [Act.put, List.setIfInBounds_toArray]
      refine wpAnyH_take (i := 1) (v := ?_) rfl (by kernel_rfl) (by kernel_rfl) (by kernel_rfl) (fun _ _ _ h => h) (Or.inl ⟨by rfl, ?_⟩) (by assumption) ?_
      case refine_2 => (intro wx hSx; (try dsimp only at hSx); go_simp; first | done | with_reducible rfl)
      try simp only [Act.put]
      refine wpAnyH_take (i := 2) (oi := ⟨some 24, _, _, _, _, none⟩) (v := ?_) rfl (by kernel_rfl) (by kernel_rfl) (by kernel_rfl) (fun _ _ _ h => h) (Or.inl ⟨by rfl, ?_⟩) (by assumption) ?_
      case refine_2 => (intro wx hSx; (try dsimp only at hSx); go_simp; first | done | with_reducible rfl)
      try simp only [Act.put]
      refine wpAnyH_take (i := 3) (oi := ⟨some 25, _, _, _, _, none⟩) (v := ?_) rfl (by kernel_rfl) (by kernel_rfl) (by kernel_rfl) (fun _ _ _ h => h) (Or.inl ⟨by rfl, ?_⟩) (by assumption) ?_
      case refine_2 => (intro wx hSx; (try dsimp only at hSx); go_simp; first | done | with_reducible rfl)
      try simp only [Act.put]
      refine wpAnyH_take (i := 4) (v := ?_) rfl (by kernel_rfl) (by kernel_rfl) (by kernel_rfl) (fun _ _ _ h => h) (Or.inl ⟨by rfl, ?_⟩) (by assumption) ?_
      case refine_2 => (intro wx hSx; (try dsimp only at hSx); go_simp; first | done | with_reducible rfl)
      try simp only [Act.put]
      refine wpAnyH_take (i := 5) (v := ?_) rfl (by kernel_rfl) (by kernel_rfl) (by kernel_rfl) (fun _ _ _ h => h) (Or.inl ⟨by rfl, ?_⟩) (by assumption) ?_
      case refine_2 => (intro wx hSx; (try dsimp only at hSx); go_simp; first | done | with_reducible rfl)
      try simp only [Act.put]
      refine wpAnyH_take (i := 6) (oi := ⟨some 28, _, _, _, _, none⟩) (v := ?_) rfl (by kernel_rfl) (by kernel_rfl) (by kernel_rfl) (fun _ _ _ h => h) (Or.inl ⟨by rfl, ?_⟩) (by assumption) ?_
      case refine_2 => (intro wx hSx; (try dsimp only at hSx); go_simp; first | done | with_reducible rfl)
      try simp only [Act.put]
      refine wpAnyH_take (i := 7) (oi := ⟨some 29, _, _, _, _, none⟩) (v := ?_) rfl (by kernel_rfl) (by kernel_rfl) (by kernel_rfl) (fun _ _ _ h => h) (Or.inl ⟨by rfl, ?_⟩) (by assumption) ?_
      case refine_2 => (intro wx hSx; (try dsimp only at hSx); go_simp; first | done | with_reducible rfl)
      try simp only [Act.put]
      have J1 := Lib.hid (J2.out.under (show Below Y2.heap.size Y2 Y2.drew from ⟨rfl, rfl, rfl, Nat.le_refl _, fun _ _ => rfl⟩))
      clear J2 hHeld
      refine El.genH (fun X => Nw W w b base g3 g3 (g3 + 1) c t cor del R (.slice Ar R.length cr) R (.slice (some ⟨gr, 0, none⟩) R.length co) X) J1.out ?_
      clear J1
      intro X I
      have I := Lib.hid I
      have a0 : X.cell? ⟨gr, i * 8, none⟩ = some (.int .i64 R[i].k) := (I.out.r2.own.cellAt (i * 8 + 0) (by omega)).trans (rpc_at R i iL 0 (by omega))
      have a1 : X.cell? ⟨gr, i * 8 + 1, none⟩ = some (.string R[i].nm) := (I.out.r2.own.cellAt (i * 8 + 1) (by omega)).trans (rpc_at R i iL 1 (by omega))
      have a2 : X.cell? ⟨gr, i * 8 + 2, none⟩ = some (.int .i64 R[i].t) := (I.out.r2.own.cellAt (i * 8 + 2) (by omega)).trans (rpc_at R i iL 2 (by omega))
      have a3 : X.cell? ⟨gr, i * 8 + 3, none⟩ = some (.int .i64 R[i].F) := (I.out.r2.own.cellAt (i * 8 + 3) (by omega)).trans (rpc_at R i iL 3 (by omega))
      have a4 : X.cell? ⟨gr, i * 8 + 4, none⟩ = some (.int .i64 R[i].A) := (I.out.r2.own.cellAt (i * 8 + 4) (by omega)).trans (rpc_at R i iL 4 (by omega))
      have a5 : X.cell? ⟨gr, i * 8 + 5, none⟩ = some (.int .i64 R[i].B) := (I.out.r2.own.cellAt (i * 8 + 5) (by omega)).trans (rpc_at R i iL 5 (by omega))
      have a6 : X.cell? ⟨gr, i * 8 + 6, none⟩ = some (.int .i64 R[i].C) := (I.out.r2.own.cellAt (i * 8 + 6) (by omega)).trans (rpc_at R i iL 6 (by omega))
      have a7 : X.cell? ⟨gr, i * 8 + 7, none⟩ = some (R[i].u) := (I.out.r2.own.cellAt (i * 8 + 7) (by omega)).trans (rpc_at R i iL 7 (by omega))
      have hVr := HNS.out R[i] (List.getElem_mem iL)
      obtain ⟨base', -, ho⟩ := I.out.r2.rds R[i] (List.getElem_mem iL)
      obtain ⟨r, hr⟩ : ∃ r, R[i] = r := ⟨_, rfl⟩
      rw [hr] at a0 a1 a2 a3 a4 a5 a6 a7 hVr ho
      clear hr
      obtain ⟨rk, rn, rt, rF, rA, rB, rC, ru, rL⟩ := r
      simp only at a0 a1 a2 a3 a4 a5 a6 a7 hVr ho
      obtain ⟨Au, cu, ev⟩ := row_form ho
      subst ev
      have HRD := Lib.hid (El.RdIn.own ho)
      have HVR := Lib.hid hVr
      clear hVr ho
      refine wpAnyH_ready (rs := [8]) (by kernel_rfl) (by simp) ?_
      refine AllReadyH.cons (o := ⟨some 30, _, _, _, _, none⟩) rfl (fun K hK => ?_) AllReadyH.nil
      go_simp
      refine hK.out _ _ (row5 I.out.r3).2.2.2.2 (fun _ => ?_)
      clear hK K a0 a1 a2 a3 a4 a5 a6 a7
      try simp only [Act.put]
      refine wpAnyH_ready (rs := [9]) (by kernel_rfl) (by simp) ?_
      refine AllReadyH.cons (o := ⟨some 31, _, _, _, _, none⟩) rfl (fun K hK => ?_) AllReadyH.nil
      go_simp
      refine (bent_any W b X rk rn rt rF rA rB rC _ rL I.out.rm.src HRD.out (vld_len HVR.out.list) HVR.out.short (Vd.cbd6 HVR.out)).mono ?_
      rintro e X1 ⟨k', n', t', F', A', B', C', u', L', hn', -, rfl, hG⟩
      obtain ⟨Sb, ub, ev⟩ := row_form hG.own
      subst ev
      have J1 := Lib.hid (I.out.step h4b h3b hG.src hG.gro)
      have HO := Lib.hid (show ∃ base', b < base' ∧ X1.ownsRow base' 99 2 (.slice Sb L'.length ub) L'.length (El.rdc L') from ⟨_, src_lt I.out.rm.src, hG.own⟩)
      clear hG I HRD HVR
      go_wp2_with fail
      refine hK.out _ _ (row5 J1.out.r3).2.2.2.2 (fun _ => ?_)
      clear hK K
      try simp only [Act.put]
      refine El.genH (fun X => Nw W w b base g3 g3 (g3 + 1) c t cor del R (.slice Ar R.length cr) R (.slice (some ⟨gr, 0, none⟩) R.length co) X ∧ ∃ base', b < base' ∧ X.ownsRow base' 99 2 (.slice Sb L'.length ub) L'.length (El.rdc L')) ⟨J1.out, HO.out⟩ ?_
      clear J1 HO
      rintro X ⟨I, HO⟩
      have I := Lib.hid I
      have HO := Lib.hid HO
      have HNN := Lib.hid (show ∀ r ∈ R.set i ⟨k', n', t', F', A', B', C', .slice Sb L'.length ub, L'⟩, r.nm.size ≤ 40 from fun r hr => by
        rcases List.mem_or_eq_of_mem_set hr with hm | rfl
        · exact (HNS.out r hm).short
        · exact hn')
      have j1 : (i : Int) < (R.length : Int) := by omega
      have hS7 := (row5 I.out.r3).2.2.2.2
      refine wpAnyH_take (i := 10) (oi := ⟨some 32, _, _, _, _, none⟩) (v := ?_) rfl (by kernel_rfl) (by kernel_rfl) (by kernel_rfl) (fun _ _ _ h => h) (Or.inl ⟨by rfl, ?_⟩) (by assumption) ?_
      case refine_2 => (intro wx hSx; (try dsimp only at hSx); go_simp; first | done | with_reducible rfl)
      try simp only [Act.put, List.setIfInBounds_toArray, List.set_cons_zero, List.set_cons_succ]
      refine wpAnyH_ready (rs := [11]) (by kernel_rfl) (by simp) ?_
      refine AllReadyH.cons (o := ⟨none, _, _, _, _, none⟩) rfl (fun K hK => ?_) AllReadyH.nil
      have a0 : X.cell? ⟨gr, i * 8, none⟩ = some (.int .i64 R[i].k) := (I.out.r2.own.cellAt (i * 8 + 0) (by omega)).trans (rpc_at R i iL 0 (by omega))
      have a1 : X.cell? ⟨gr, i * 8 + 1, none⟩ = some (.string R[i].nm) := (I.out.r2.own.cellAt (i * 8 + 1) (by omega)).trans (rpc_at R i iL 1 (by omega))
      have a2 : X.cell? ⟨gr, i * 8 + 2, none⟩ = some (.int .i64 R[i].t) := (I.out.r2.own.cellAt (i * 8 + 2) (by omega)).trans (rpc_at R i iL 2 (by omega))
      have a3 : X.cell? ⟨gr, i * 8 + 3, none⟩ = some (.int .i64 R[i].F) := (I.out.r2.own.cellAt (i * 8 + 3) (by omega)).trans (rpc_at R i iL 3 (by omega))
      have a4 : X.cell? ⟨gr, i * 8 + 4, none⟩ = some (.int .i64 R[i].A) := (I.out.r2.own.cellAt (i * 8 + 4) (by omega)).trans (rpc_at R i iL 4 (by omega))
      have a5 : X.cell? ⟨gr, i * 8 + 5, none⟩ = some (.int .i64 R[i].B) := (I.out.r2.own.cellAt (i * 8 + 5) (by omega)).trans (rpc_at R i iL 5 (by omega))
      have a6 : X.cell? ⟨gr, i * 8 + 6, none⟩ = some (.int .i64 R[i].C) := (I.out.r2.own.cellAt (i * 8 + 6) (by omega)).trans (rpc_at R i iL 6 (by omega))
      have a7 : X.cell? ⟨gr, i * 8 + 7, none⟩ = some (R[i].u) := (I.out.r2.own.cellAt (i * 8 + 7) (by omega)).trans (rpc_at R i iL 7 (by omega))
      have f0 : X.frozen? ⟨gr, i * 8, none⟩ = false := I.out.r2.own.frozenAt (i * 8 + 0)
      have f1 : X.frozen? ⟨gr, i * 8 + 1, none⟩ = false := I.out.r2.own.frozenAt (i * 8 + 1)
      have f2 : X.frozen? ⟨gr, i * 8 + 2, none⟩ = false := I.out.r2.own.frozenAt (i * 8 + 2)
      have f3 : X.frozen? ⟨gr, i * 8 + 3, none⟩ = false := I.out.r2.own.frozenAt (i * 8 + 3)
      have f4 : X.frozen? ⟨gr, i * 8 + 4, none⟩ = false := I.out.r2.own.frozenAt (i * 8 + 4)
      have f5 : X.frozen? ⟨gr, i * 8 + 5, none⟩ = false := I.out.r2.own.frozenAt (i * 8 + 5)
      have f6 : X.frozen? ⟨gr, i * 8 + 6, none⟩ = false := I.out.r2.own.frozenAt (i * 8 + 6)
      have f7 : X.frozen? ⟨gr, i * 8 + 7, none⟩ = false := I.out.r2.own.frozenAt (i * 8 + 7)
      have J9 := Lib.hid (I.out.elem rfl HB.out hW i iL ⟨k', n', t', F', A', B', C', .slice Sb L'.length ub, L'⟩ HO.out)
      clear I HO
      go_simp
      refine hK.out _ _ (row5 J9.out.r3).2.2.2.2 (fun _ => ?_)
      clear hK K a0 a1 a2 a3 a4 a5 a6 a7 f0 f1 f2 f3 f4 f5 f6 f7
      try simp only [Act.put]
      refine El.genH (fun X => Nw W w b base g3 g3 (g3 + 1) c t cor del R (.slice Ar R.length cr) (R.set i ⟨k', n', t', F', A', B', C', .slice Sb L'.length ub, L'⟩) (.slice (some ⟨gr, 0, none⟩) R.length co) X) (J9.out.under ⟨rfl, rfl, rfl, Nat.le_refl _, fun _ _ => rfl⟩) ?_
      clear J9
      intro X J9
      have J9 := Lib.hid J9
      generalize R.set i ⟨k', n', t', F', A', B', C', .slice Sb L'.length ub, L'⟩ = Rn at *
      refine wpAnyH_done (by kernel_rfl) ?_ _
      go_upto_region 16 with fail
      refine forget (Nw W w b base g3 g3 (g3 + 1) c t cor del R (.slice Ar R.length cr) Rn (.slice (some ⟨gr, 0, none⟩) R.length co)) J9.out ?_
      clear J9
      rintro Z I
      obtain ⟨p0, p1, p2, p3, p4⟩ := row5 I.r3
      have f0 := I.r4.thaw 0
      have f1 := I.r4.thaw 1
      have f2 := I.r4.thaw 2
      have f3 := I.r4.thaw 3
      have f4 := I.r4.thaw 4
      obtain ⟨q0, q1, q2, q3, q4⟩ := row5 I.r4
      have HZ := Lib.hid (I.fin h4b (by omega) (.string c) (.int .i64 t) (.int .i64 cor) (.int .i64 del) (.slice (some ⟨gr, 0, none⟩) R.length co))
      clear I
      go_wp2_with fail
      clear f0 f1 f2 f3 f4 q0 q1 q2 q3 q4 p0 p1 p2 p3 p4
      exact bodyPost_ret (v := bulV c t cor del (.slice (some ⟨gr, 0, none⟩) R.length co)) (by obtain ⟨z0, z1, z2, z3, z4⟩ := row5 HZ.out.2.1; simp [results, Tryz.results14, z0, z1, z2, z3, z4, go_sem]) rfl ⟨HZ.out.1.1, HZ.out.2.2, ⟨c, t, cor, del, _, Rn, hc40, HNN.out, rfl, by rw [HG3.out]; exact HZ.out.1.2⟩⟩
end Go.Proofs.YtfnlgfacadmjpaaGreatDoor.Bu
