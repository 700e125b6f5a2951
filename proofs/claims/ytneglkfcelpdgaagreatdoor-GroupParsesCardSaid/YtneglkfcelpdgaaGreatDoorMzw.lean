/- Both sides' Format, Validate, Readable, Same and Compare of a report, under names. -/
import Derived.Test.YtneglkfcelpdgaaGreatDoorMzn
import Derived.Test.YtneglkfcelpdgaaGreatDoorMzt
import Derived.Test.YtneglkfcelpdgaaGreatDoorMzu
import Derived.Test.YtneglkfcelpdgaaGreatDoorMzs
import Derived.Test.YtneglkfcelpdgaaGreatDoorMzj
import Derived.Test.YtneglkfcelpdgaaGreatDoorMzv
namespace Go.Proofs.YtneglkfcelpdgaaGreatDoor
open Go.RowKit

noncomputable def Rp.code (r : Rp) : Int := vcode r.k r.nm r.t r.F r.A r.B r.C r.L
open Classical in
noncomputable def Rp.text (r : Rp) : ByteArray := if r.code = 0 then S (gtx r.k r.nm r.t r.F r.A r.B r.L) else ⟨#[]⟩
/-- Readable near a minute. -/
noncomputable def Rp.rdk (r : Rp) (near : Int) : Bool := decide (r.code = 0) && rdb r.t near
theorem fmt_from (r : Rp) (w0 w : World) (hr : El.RdIn w0 r.u r.L) (hE : Env w0) (hb : Below w0.heap.size w0 w) :
    Calls Tryz.prog 11 #[r.v] w fun e w' => e = .returned (.tuple #[.string r.text, .int .i64 r.code]) ∧ Below w0.heap.size w0 w' := by
  by_cases h : r.code = 0
  · have e1 : r.text = S (gtx r.k r.nm r.t r.F r.A r.B r.L) := by unfold Rp.text; rw [if_pos h]
    rw [e1, h]
    exact (format_yes r.k r.nm r.t r.F r.A r.B r.C r.u r.L w (hr.under hb) (hE.under hb) (Vd.of h)).mono fun _ _ ⟨he, hg⟩ => ⟨he, hb.trans (hg.mono hb.size)⟩
  · have e1 : r.text = ⟨#[]⟩ := by unfold Rp.text; rw [if_neg h]
    rw [e1]
    exact (format_no r.k r.nm r.t r.F r.A r.B r.C r.u r.L w (hr.under hb) (hE.under hb) h).mono fun _ _ ⟨he, hg⟩ => ⟨he, hb.trans (hg.mono hb.size)⟩
theorem rfmt_from (r : Rp) (w0 w : World) (hr : El.RdIn w0 r.u r.L) (hs : r.nm.size ≤ 40) (hb : Below w0.heap.size w0 w) :
    Calls Tryz.prog 12 #[r.v] w fun e w' => e = .returned (.tuple #[.string r.text, .int .i64 r.code]) ∧ Below w0.heap.size w0 w' := by
  by_cases h : r.code = 0
  · have e1 : r.text = S (gtx r.k r.nm r.t r.F r.A r.B r.L) := by unfold Rp.text; rw [if_pos h]
    rw [e1, h]
    exact (refFormat_rep r.k r.nm r.t r.F r.A r.B r.C r.u r.L w (hr.under hb) (by omega) (Vd.of h)).mono fun _ _ ⟨he, hg⟩ => ⟨he, hb.trans (hg.mono hb.size)⟩
  · have e1 : r.text = ⟨#[]⟩ := by unfold Rp.text; rw [if_neg h]
    rw [e1]
    exact (refFormat_no r.k r.nm r.t r.F r.A r.B r.C r.u r.L w (hr.under hb) (by omega) h).mono fun _ _ ⟨he, hg⟩ => ⟨he, hb.trans (hg.mono hb.size)⟩
theorem val_from (r : Rp) (w0 w : World) (hr : El.RdIn w0 r.u r.L) (hE : Env w0) (hb : Below w0.heap.size w0 w) :
    Calls Tryz.prog 13 #[r.v] w fun e w' => e = .returned (.int .i64 r.code) ∧ Below w0.heap.size w0 w' :=
  (validate_any r.k r.nm r.t r.F r.A r.B r.C r.u r.L w (hr.under hb) (hE.under hb).tab).mono fun _ _ ⟨he, hg⟩ => ⟨he, hb.trans (hg.mono hb.size)⟩
theorem rval_from (r : Rp) (w0 w : World) (hr : El.RdIn w0 r.u r.L) (hs : r.nm.size ≤ 40) (hb : Below w0.heap.size w0 w) :
    Calls Tryz.prog 14 #[r.v] w fun e w' => e = .returned (.int .i64 r.code) ∧ Below w0.heap.size w0 w' :=
  (refVal_any r.k r.nm r.t r.F r.A r.B r.C r.u r.L w (hr.under hb) (by omega)).mono fun _ _ ⟨he, hg⟩ => ⟨he, hb.trans (hg.mono hb.size)⟩
theorem rd_from (r : Rp) (near : Int) (w0 w : World) (hr : El.RdIn w0 r.u r.L) (hE : Env w0) (hb : Below w0.heap.size w0 w) :
    Calls Tryz.prog 15 #[r.v, .int .i64 near] w fun e w' => e = .returned (.bool (r.rdk near)) ∧ Below w0.heap.size w0 w' :=
  (readable_any r.k r.nm r.t r.F r.A r.B r.C r.u r.L near w (hr.under hb) (hE.under hb)).mono fun _ _ ⟨he, hg⟩ => ⟨he, hb.trans (hg.mono hb.size)⟩
theorem rrd_from (r : Rp) (near : Int) (w0 w : World) (hr : El.RdIn w0 r.u r.L) (hs : r.nm.size ≤ 40) (hb : Below w0.heap.size w0 w) :
    Calls Tryz.prog 16 #[r.v, .int .i64 near] w fun e w' => e = .returned (.bool (r.rdk near)) ∧ Below w0.heap.size w0 w' :=
  (refReadable_any r.k r.nm r.t r.F r.A r.B r.C r.u r.L near w (hr.under hb) (by omega)).mono fun _ _ ⟨he, hg⟩ => ⟨he, hb.trans (hg.mono hb.size)⟩
theorem cmp_from (a b : Rp) (w0 w : World) (ha : El.RdIn w0 a.u a.L) (hc : El.RdIn w0 b.u b.L) (hb : Below w0.heap.size w0 w) :
    Calls Tryz.prog 19 #[a.v, b.v] w fun e w' => e = .returned (.int .i64 (cR2 a b)) ∧ Below w0.heap.size w0 w' :=
  (compare_is a b w0 w ha hc hb).mono fun _ _ ⟨he, hg⟩ => ⟨he, hb.trans (hg.mono hb.size)⟩
theorem same_from (a b : Rp) (w0 w : World) (ha : El.RdIn w0 a.u a.L) (hc : El.RdIn w0 b.u b.L) (hb : Below w0.heap.size w0 w) :
    Calls Tryz.prog 17 #[a.v, b.v] w fun e w' => e = .returned (.bool (cR2 a b == 0)) ∧ Below w0.heap.size w0 w' :=
  (same_is a b w0 w ha hc hb).mono fun _ _ ⟨he, hg⟩ => ⟨he, hb.trans (hg.mono hb.size)⟩
theorem rcmp_from (a b : Rp) (w0 w : World) (ha : El.RdIn w0 a.u a.L) (hc : El.RdIn w0 b.u b.L) (hb : Below w0.heap.size w0 w) :
    Calls Tryz.prog 20 #[a.v, b.v] w fun e w' => e = .returned (.int .i64 (cR2 a b)) ∧ Below w0.heap.size w0 w' :=
  (refCompare_any a.k a.nm a.t a.F a.A a.B a.C a.u a.L b.k b.nm b.t b.F b.A b.B b.C b.u b.L w (ha.under hb) (hc.under hb)).mono fun _ _ ⟨he, hg⟩ => ⟨he, hb.trans (hg.mono hb.size)⟩
theorem rsame_from (a b : Rp) (w0 w : World) (ha : El.RdIn w0 a.u a.L) (hc : El.RdIn w0 b.u b.L) (hb : Below w0.heap.size w0 w) :
    Calls Tryz.prog 18 #[a.v, b.v] w fun e w' => e = .returned (.bool (cR2 a b == 0)) ∧ Below w0.heap.size w0 w' :=
  (refSame_any a.k a.nm a.t a.F a.A a.B a.C a.u a.L b.k b.nm b.t b.F b.A b.B b.C b.u b.L w (ha.under hb) (hc.under hb)).mono fun _ _ ⟨he, hg⟩ => ⟨he, hb.trans (hg.mono hb.size)⟩
def rpCells (r : Rp) : List Value := [.int .i64 r.k, .string r.nm, .int .i64 r.t, .int .i64 r.F, .int .i64 r.A, .int .i64 r.B, .int .i64 r.C, r.u]
def rpc (R : List Rp) : List Value := R.flatMap rpCells
/-- The cells of one report in a row of reports. -/
def At8 (V : World) (g o : Nat) (r : Rp) : Prop :=
  V.cell? ⟨g, o, none⟩ = some (.int .i64 r.k) ∧ V.cell? ⟨g, o + 1, none⟩ = some (.string r.nm) ∧ V.cell? ⟨g, o + 2, none⟩ = some (.int .i64 r.t) ∧ V.cell? ⟨g, o + 3, none⟩ = some (.int .i64 r.F) ∧ V.cell? ⟨g, o + 4, none⟩ = some (.int .i64 r.A) ∧ V.cell? ⟨g, o + 5, none⟩ = some (.int .i64 r.B) ∧ V.cell? ⟨g, o + 6, none⟩ = some (.int .i64 r.C) ∧ V.cell? ⟨g, o + 7, none⟩ = some r.u
theorem At8.under {V w : World} {g o : Nat} {r : Rp} (h : At8 V g o r) (hg : g < V.heap.size) (hb : Below V.heap.size V w) : At8 w g o r := by
  obtain ⟨h0, h1, h2, h3, h4, h5, h6, h7⟩ := h
  exact ⟨(hb.cell (p := ⟨g, o, none⟩) hg).trans h0, (hb.cell (p := ⟨g, o + 1, none⟩) hg).trans h1, (hb.cell (p := ⟨g, o + 2, none⟩) hg).trans h2, (hb.cell (p := ⟨g, o + 3, none⟩) hg).trans h3, (hb.cell (p := ⟨g, o + 4, none⟩) hg).trans h4, (hb.cell (p := ⟨g, o + 5, none⟩) hg).trans h5, (hb.cell (p := ⟨g, o + 6, none⟩) hg).trans h6, (hb.cell (p := ⟨g, o + 7, none⟩) hg).trans h7⟩
theorem rpc_at : ∀ (R : List Rp) (i : Nat) (h : i < R.length), ∀ j : Nat, j < 8 → (rpc R)[i * 8 + j]? = (rpCells R[i])[j]?
  | x :: r, 0, _, j, hj => by
    show (rpCells x ++ rpc r)[0 * 8 + j]? = _
    rw [Nat.zero_mul, Nat.zero_add, List.getElem?_append_left (by exact hj)]
    rfl
  | x :: r, i + 1, h, j, hj => by
    have := rpc_at r i (by simpa using h) j hj
    show (rpCells x ++ rpc r)[(i + 1) * 8 + j]? = _
    rw [List.getElem?_append_right (by show 8 ≤ _; omega), show (i + 1) * 8 + j - (rpCells x).length = i * 8 + j by show (i + 1) * 8 + j - 8 = _; omega]
    exact this
theorem at8_row {V : World} {g : Nat} {R : List Rp} (h : Row V g 26 (rpc R).toArray) (i : Nat) (hi : i < R.length) : At8 V g (i * 8) R[i] := by
  have k : ∀ j < 8, V.cell? ⟨g, i * 8 + j, none⟩ = (rpCells R[i])[j]? := fun j hj => by
    rw [h.cell, List.getElem?_toArray]
    exact rpc_at R i hi j hj
  exact ⟨k 0 (by omega), k 1 (by omega), k 2 (by omega), k 3 (by omega), k 4 (by omega), k 5 (by omega), k 6 (by omega), k 7 (by omega)⟩
/-- n reports in memory, with short names. -/
def Reps (V : World) (g n : Nat) : Prop := g < V.heap.size ∧ ∀ i < n, ∃ r : Rp, At8 V g (i * 8) r ∧ El.RdIn V r.u r.L ∧ r.nm.size ≤ 40
theorem Reps.of {V : World} {g n : Nat} {R : List Rp} (h : Row V g 26 (rpc R).toArray) (hn : R.length = n) (hr : ∀ r ∈ R, El.RdIn V r.u r.L ∧ r.nm.size ≤ 40) : Reps V g n :=
  ⟨h.lt, fun i hi => ⟨R[i]'(by omega), at8_row h i (by omega), hr _ (List.getElem_mem _)⟩⟩
theorem small_k (k : Int) (nm : ByteArray) (t F A B C : Int) (u : Value) (L : List El.Elt.R) (s : Bool) (w0 w : World) (hL : El.RdIn w0 u L) (hs : (decide (nm.size ≤ 40) && decide (L.length ≤ 40)) = s) (h : Below w0.heap.size w0 w) :
    Calls Tryz.prog 5 #[repV k nm t F A B C u] w fun e w' => e = .returned (.bool s) ∧ Below w.heap.size w w' := by
  have := small_any k nm t F A B C u L w (hL.under h)
  rw [hs] at this
  exact this
theorem Vd.short {k : Int} {nm : ByteArray} {t F A B C : Int} {L : List El.Elt.R} (h : Vd k nm t F A B C L) : nm.size ≤ 40 := by
  have h5 := h.name
  unfold nameOk at h5
  rw [Bool.and_eq_true, decide_eq_true_iff] at h5
  omega
theorem Vd.cbd {k : Int} {nm : ByteArray} {t F A B C : Int} {L : List El.Elt.R} (h : Vd k nm t F A B C L) : 0 ≤ C ∧ C ≤ 1000000 := by
  have hp := h.place
  unfold plOk at hp
  by_cases k1 : k = 1
  · rw [if_pos k1] at hp
    simp only [Bool.and_eq_true, beq_iff_eq] at hp
    omega
  · rw [if_neg k1] at hp
    unfold nrm at hp
    obtain ⟨f, rfl, h1, h2, h3, h4, h5, h6, h7, h8⟩ := Pl.vb_to (Bool.and_eq_true_iff.1 hp).1
    omega
end Go.Proofs.YtneglkfcelpdgaaGreatDoor
