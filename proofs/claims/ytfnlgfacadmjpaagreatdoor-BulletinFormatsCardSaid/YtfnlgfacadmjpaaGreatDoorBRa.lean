/- What the statements of bulletins draw: lists of valid reports. The law's made: a valid bulletin. The reference's Centre and letter. -/
import Derived.Test.YtfnlgfacadmjpaaGreatDoorBAk
import Derived.Test.YtfnlgfacadmjpaaGreatDoorGOwn
namespace Go.Proofs.YtfnlgfacadmjpaaGreatDoor.Bu
open Go.RowKit

theorem grown_tr {a c d : World} {r : Option Nat} (h : a.grownBy c r) (k : c.grownBy d r) : a.grownBy d r :=
  ⟨k.os.trans h.os, k.tape.trans h.tape, k.output.trans h.output, Nat.le_trans h.size k.size, fun i hi hr => (k.block i (Nat.lt_of_lt_of_le hi h.size) hr).trans (h.block i hi hr)⟩
/-- A list of drawn reports. -/
structure RL (W : World) (b : Nat) (w : World) (m : Int) (R : List Rp) (v : Value) (Y : World) : Prop where
  src : Src W b Y
  gro : w.grownBy Y (some b)
  own : Y.ownsRow w.heap.size 53 8 v R.length (rpc R)
  rds : ∀ r ∈ R, ∃ base, b < base ∧ Y.ownsRow base 99 2 r.u r.L.length (El.rdc r.L)
  val : ∀ r ∈ R, Vd r.k r.nm r.t r.F r.A r.B r.C r.L ∧ (m - 20160 < r.t ∧ r.t < m + 20160)
section
variable {W w Y Y' w9 : World} {b : Nat} {m : Int} {R : List Rp} {v : Value}
theorem RL.step (h : RL W b w m R v Y) (hb : b < w.heap.size) (hs : Src W b Y') (hg : Y.grownBy Y' (some b)) : RL W b w m R v Y' :=
  ⟨hs, grown_tr h.gro hg, own_heap h.own (fun i hi => hg.block i (row_size h.own hi) (fun e => by injection e with e; have := row_base h.own hi; omega)),
    fun r hr => by
      obtain ⟨base, hbb, ho⟩ := h.rds r hr
      exact ⟨base, hbb, own_heap ho (fun i hi => hg.block i (row_size ho hi) (fun e => by injection e with e; have := row_base ho hi; omega))⟩, h.val⟩
theorem RL.ins (h : RL W b w m R v Y) : RpsIn Y v R := RpsIn.own h.own (fun r hr => by obtain ⟨base, -, ho⟩ := h.rds r hr; exact El.RdIn.own ho)
theorem RL.app (h : RL W b w m R v Y) (hbw : b < w.heap.size) (hW : W.heap.size ≤ w.heap.size) {tmp : Obj} {r : Rp} {v' : Value} {base : Nat} (hbb : b < base) (hr : Y.ownsRow base 99 2 r.u r.L.length (El.rdc r.L)) (hv : Vd r.k r.nm r.t r.F r.A r.B r.C r.L ∧ (m - 20160 < r.t ∧ r.t < m + 20160))
    (ho : w9.ownsRow w.heap.size 53 8 v' (R.length + 1) (rpc R ++ rpCells r)) (hg : (Y.alloc tmp).grownBy w9 v.ownBlock) : RL W b w m (R ++ [r]) v' w9 := by
  have hal : Below Y.heap.size Y (Y.alloc tmp) := (Below.refl _ _).alloc (Nat.le_refl _) _
  have hs := h.src.under hal
  obtain ⟨cs, hrow⟩ := El.src_row hs
  have hown := own_heap (W' := Y.alloc tmp) h.own (fun i hi => Below.heap_alloc Y _ i (row_size h.own hi))
  have hnb : v.ownBlock ≠ some b := fun e => by have := row_base h.own e; omega
  refine ⟨El.src_kept hs hg hnb (fun i e => Nat.le_trans hW (row_base h.own e)), ?_, by rw [rpc_app, List.length_append]; exact ho, ?_, ?_⟩
  · have h1 := h.gro.size
    refine ⟨hg.os.trans h.gro.os, hg.tape.trans h.gro.tape, hg.output.trans h.gro.output, Nat.le_trans h1 (Nat.le_trans hal.size hg.size), fun i hi hne => ?_⟩
    exact (hg.block i (by have := hal.size; omega) (fun e => by have := row_base h.own e.symm; omega)).trans ((Below.heap_alloc Y _ i (by omega)).trans (h.gro.block i hi hne))
  · intro r' hr'
    have key : ∀ {r0 : Rp} {base0 : Nat}, Y.ownsRow base0 99 2 r0.u r0.L.length (El.rdc r0.L) → w9.ownsRow base0 99 2 r0.u r0.L.length (El.rdc r0.L) := fun {r0 base0} hq =>
      own_heap hq (fun i hi => (hg.block i (by have := row_size hq hi; have := hal.size; omega) (fun e => by
        obtain ⟨c1, h1, -⟩ := row_own h.own e.symm
        obtain ⟨c2, h2, -⟩ := row_own hq hi
        rw [h1] at h2; injection h2 with h2; injection h2 with _ h2; exact absurd h2 (by decide))).trans (Below.heap_alloc Y _ i (row_size hq hi)))
    rcases List.mem_append.1 hr' with q | q
    · obtain ⟨base0, hb0, ho0⟩ := h.rds r' q
      exact ⟨base0, hb0, key ho0⟩
    · rw [List.mem_singleton.1 q]; exact ⟨base, hbb, key hr⟩
  · intro r' hr'
    rcases List.mem_append.1 hr' with q | q
    · exact h.val r' q
    · rw [List.mem_singleton.1 q]; exact hv
end
/-- What Reports leaves. -/
def RpO (W : World) (b : Nat) (m : Int) (n : Nat) (w : World) (e : Ending) (w' : World) : Prop := ∃ (R : List Rp) (v : Value), e = .returned v ∧ R.length ≤ n ∧ RL W b w m R v w'
set_option maxRecDepth 100000 in
set_option maxHeartbeats 2000000 in
theorem reports_any (W : World) (b : Nat) (w : World) (m : Int) (n : Nat) (h : Src W b w) (hn : n ≤ 20) (m1 : 0 ≤ m) (m2 : m ≤ 52595999) :
    Calls Tryz.prog 28 #[.pointer (some ⟨b, 0, none⟩), .int .i64 (n : Int), .int .i64 m] w (RpO W b m n w) := by
  have hbl := src_lt h
  have hW := h.below.size
  obtain ⟨i0, hi, hz0, hz1, hz2⟩ := info_parts infoReport
  go_enter Tryz.func28, Tryz.ntmps28
  go_wp2_with fail
  refine (n_any W b _ ((n : Int) + 1) h (by omega) (by omega)).mono ?_
  rintro e w1 ⟨x, ⟨x1, x2⟩, rfl, hs, hg⟩
  have HR : Hid (RL W b w m [] (.slice none 0 0) w1) := Lib.hid ⟨hs, hg, World.ownsRow_nil _ _ _ _, fun r hr => absurd hr List.not_mem_nil, fun r hr => absurd hr List.not_mem_nil⟩
  clear hs hg
  obtain ⟨j0, rfl⟩ : ∃ j0 : Nat, x = (j0 : Int) := ⟨x.toNat, by omega⟩
  go_wp2_with fail
  go_loopw [7, 8] (fun v i Y => ∃ (j : Nat) (R : List Rp), i = .int .i64 j ∧ j + R.length ≤ n ∧ Hid (RL W b w m R v Y)) (fun _ i _ => (intOf i).toNat)
  case atStart => exact ⟨j0, [], rfl, by simp; omega, HR⟩
  case round =>
    clear HR
    obtain ⟨j, R, rfl, hjn, M⟩ := hrel
    obtain ⟨Ar, cr, er⟩ := row_form M.out.own
    subst er
    by_cases hj : 0 < j
    · have k0 : (0 : Int) < (j : Int) := by omega
      have hbr : b < wr.heap.size := src_lt M.out.src
      go_wp2_with fail
      refine (report_any W b wr m M.out.src m1 m2).mono ?_
      rintro e w3 ⟨k, nm, t, F, A, B, C, u, L, hV, hT, rfl, hG⟩
      have M3 := Lib.hid (M.out.step hbl hG.src hG.gro)
      have HO := Lib.hid hG.own
      obtain ⟨Au, cu, eu⟩ := row_form hG.own
      subst eu
      have HVV := Lib.hid (⟨hV, hT⟩ : Vd k nm t F A B C L ∧ (m - 20160 < t ∧ t < m + 20160))
      have hrow := own_heap (W' := w3.alloc (.cells (repC k nm t F A B C (.slice Au L.length cu)) 53)) M3.out.own (fun i hi => Below.heap_alloc w3 _ i (row_size M3.out.own hi))
      have HC8 := Lib.hid (eight_at (r := (⟨k, nm, t, F, A, B, C, .slice Au L.length cu, L⟩ : Rp)) (Row.new w3 (repC k nm t F A B C (.slice Au L.length cu)) 53))
      have hsz : w.heap.size ≤ w3.heap.size := M3.out.gro.size
      have HRW := Lib.hid hrow
      clear hG hV hT hrow M
      go_wp2_with (at_builtin; refine El.wpList_append_own' rfl (.tmp 17) (.tmp 21) 22 rfl w.heap.size 53 i0 (repV 0 ⟨#[]⟩ 0 0 0 0 0 (.slice none 0 0)) 8 88 Tryz.underlying22 hi hz0 hz1 hz2 rfl (by decide) (.slice Ar R.length cr) R.length (rpc R) rfl HRW.out ⟨w3.heap.size, 0, none⟩ 1 1 (rpCells (⟨k, nm, t, F, A, B, C, .slice Au L.length cu, L⟩ : Rp)) rfl rfl HC8.out (fun u hu => by simp only [rpCells, List.mem_cons, List.not_mem_nil, or_false] at hu; rcases hu with rfl | rfl | rfl | rfl | rfl | rfl | rfl | rfl <;> rfl) (by unfold maxLen; omega) (by omega) (Nat.le_trans hsz ((Below.refl _ _).alloc (Nat.le_refl _) _ : Below w3.heap.size w3 _).size) ?_; intro v' w9 ho' hg'; obtain ⟨A', cap', ev⟩ : ∃ A' cap', v' = .slice A' (R.length + 1) cap' := row_form ho'; subst ev)
      have HA := Lib.hid (M3.out.app hbl hW hbr HO.out HVV.out ho' hg')
      clear ho' hg' M3 HO HVV HC8 HRW
      go_roundw
      case rel => exact ⟨j - 1, R ++ [⟨k, nm, t, F, A, B, C, .slice Au L.length cu, L⟩], by go_num, by simp; omega, HA⟩
      case measure => simp [intOf]; omega
    · have k0 : ¬ (0 : Int) < (j : Int) := by omega
      go_wp2_with fail
      go_ret
      exact ⟨R, _, rfl, by omega, M.out⟩
end Go.Proofs.YtfnlgfacadmjpaaGreatDoor.Bu
namespace Go.Proofs.YtfnlgfacadmjpaaGreatDoor.Bu
open Go.RowKit

/-- A list of reports that outlives draws. -/
structure RM (W : World) (b base : Nat) (R : List Rp) (v : Value) (Y : World) : Prop where
  src : Src W b Y
  bb : b < base
  own : Y.ownsRow base 53 8 v R.length (rpc R)
  rds : ∀ r ∈ R, ∃ base', b < base' ∧ Y.ownsRow base' 99 2 r.u r.L.length (El.rdc r.L)
section
variable {W w Y Y' : World} {b base : Nat} {m : Int} {R : List Rp} {v : Value}
theorem RL.rm (h : RL W b w m R v Y) (hb : b < w.heap.size) : RM W b w.heap.size R v Y := ⟨h.src, hb, h.own, h.rds⟩
theorem RM.step (h : RM W b base R v Y) (hs : Src W b Y') (hg : Y.grownBy Y' (some b)) : RM W b base R v Y' :=
  ⟨hs, h.bb, own_heap h.own (fun i hi => hg.block i (row_size h.own hi) (fun e => by injection e with e; have := row_base h.own hi; have := h.bb; omega)),
    fun r hr => by
      obtain ⟨base', hbb, ho⟩ := h.rds r hr
      exact ⟨base', hbb, own_heap ho (fun i hi => hg.block i (row_size ho hi) (fun e => by injection e with e; have := row_base ho hi; omega))⟩⟩
theorem RM.under (h : RM W b base R v Y) (hb : Below Y.heap.size Y Y') : RM W b base R v Y' :=
  ⟨h.src.under hb, h.bb, own_heap h.own (fun i hi => hb.block i (row_size h.own hi)), fun r hr => by
      obtain ⟨base', hbb, ho⟩ := h.rds r hr
      exact ⟨base', hbb, own_heap ho (fun i hi => hb.block i (row_size ho hi))⟩⟩
theorem RM.set (h : RM W b base R v Y) {g : Nat} {cs : Array Value} (hr : Row Y g 24 cs) (hW : W.heap.size ≤ g) (hne : g ≠ b) (j : Nat) (u : Value) : RM W b base R v (Y.setCell ⟨g, j, none⟩ u) :=
  ⟨Pl.src_set h.src g j u hW hne, h.bb, own_heap h.own (fun i hi => Below.heap_setCell Y ⟨g, j, none⟩ u i (fun e => row_not h.own hr (by decide) (by rw [hi]; exact congrArg some e))), fun r hr' => by
      obtain ⟨base', hbb, ho⟩ := h.rds r hr'
      exact ⟨base', hbb, own_heap ho (fun i hi => Below.heap_setCell Y ⟨g, j, none⟩ u i (fun e => row_not ho hr (by decide) (by rw [hi]; exact congrArg some e)))⟩⟩
theorem RM.ins (h : RM W b base R v Y) : RpsIn Y v R := RpsIn.own h.own (fun r hr => by obtain ⟨base', -, ho⟩ := h.rds r hr; exact El.RdIn.own ho)
end
/-- What made leaves. -/
def MdO (W : World) (b n : Nat) (e : Ending) (w' : World) : Prop := ∃ (c : List UInt8) (t cor del : Int) (R : List Rp) (v : Value) (base : Nat), e = .returned (bulV (S c) t cor del v) ∧ VdB (S c) t cor del R ∧ R.length ≤ n ∧ RM W b base R v w'
/-- The result's box, the bulletin's box, the reports. -/
structure Ms (W : World) (b base g4 g6 : Nat) (c : ByteArray) (t cor del : Int) (R : List Rp) (v : Value) (Y : World) : Prop where
  rm : RM W b base R v Y
  r4 : Row Y g4 24 (bulC ⟨#[]⟩ 0 0 0 (.slice none 0 0))
  r6 : Row Y g6 24 (bulC c t cor del v)
section
variable {W Y Y' : World} {b base g4 g6 : Nat} {c : ByteArray} {t cor del : Int} {R : List Rp} {v : Value}
theorem Ms.step (h : Ms W b base g4 g6 c t cor del R v Y) (h4 : g4 ≠ b) (h6 : g6 ≠ b) (hs : Src W b Y') (hg : Y.grownBy Y' (some b)) : Ms W b base g4 g6 c t cor del R v Y' :=
  ⟨h.rm.step hs hg, h.r4.grown hg (fun e => h4 (by injection e)), h.r6.grown hg (fun e => h6 (by injection e))⟩
theorem Ms.cset (h : Ms W b base g4 g6 c t cor del R v Y) (h4 : g4 ≠ g6) (h6 : g6 ≠ b) (hW : W.heap.size ≤ g6) (x : Int) : Ms W b base g4 g6 c t x del R v (Y.setCell ⟨g6, 2, none⟩ (.int .i64 x)) :=
  ⟨h.rm.set h.r6 hW h6 2 _, h.r4.far (p := ⟨g6, 2, none⟩) (Ne.symm h4) _, h.r6.put 2 _⟩
theorem Ms.dset (h : Ms W b base g4 g6 c t cor del R v Y) (h4 : g4 ≠ g6) (h6 : g6 ≠ b) (hW : W.heap.size ≤ g6) (x : Int) : Ms W b base g4 g6 c t cor x R v (Y.setCell ⟨g6, 3, none⟩ (.int .i64 x)) :=
  ⟨h.rm.set h.r6 hW h6 3 _, h.r4.far (p := ⟨g6, 3, none⟩) (Ne.symm h4) _, h.r6.put 3 _⟩
theorem Ms.fin (h : Ms W b base g4 g6 c t cor del R v Y) (h4 : g4 ≠ b) (hW : W.heap.size ≤ g4) (u0 u1 u2 u3 u4 : Value) :
    RM W b base R v (((((Y.setCell ⟨g4, 0, none⟩ u0).setCell ⟨g4, 1, none⟩ u1).setCell ⟨g4, 2, none⟩ u2).setCell ⟨g4, 3, none⟩ u3).setCell ⟨g4, 4, none⟩ u4) ∧ Row (((((Y.setCell ⟨g4, 0, none⟩ u0).setCell ⟨g4, 1, none⟩ u1).setCell ⟨g4, 2, none⟩ u2).setCell ⟨g4, 3, none⟩ u3).setCell ⟨g4, 4, none⟩ u4) g4 24 #[u0, u1, u2, u3, u4] := by
  have a0 := h.r4.put 0 u0
  have a1 := a0.put 1 u1
  have a2 := a1.put 2 u2
  have a3 := a2.put 3 u3
  exact ⟨((((h.rm.set h.r4 hW h4 0 u0).set a0 hW h4 1 u1).set a1 hW h4 2 u2).set a2 hW h4 3 u3).set a3 hW h4 4 u4, set5_row u0 u1 u2 u3 u4 h.r4⟩
end
set_option maxRecDepth 100000 in
set_option maxHeartbeats 2000000 in
theorem made_any (W : World) (b : Nat) (w : World) (n : Nat) (h : Src W b w) (hn : n ≤ 20) :
    Calls Tryz.prog 13 #[.pointer (some ⟨b, 0, none⟩), .int .i64 (n : Int)] w (fun e w' => MdO W b n e w') := by
  have hbl := src_lt h
  have hW := h.below.size
  have hb1 : Below w.heap.size w (w.alloc (.cells (bulC ⟨#[]⟩ 0 0 0 (.slice none 0 0)) 24)) := (Below.refl _ _).alloc (Nat.le_refl _) _
  have H1 := Lib.hid (⟨h.under hb1, Row.new _ _ _⟩ : Src W b (w.alloc (.cells (bulC ⟨#[]⟩ 0 0 0 (.slice none 0 0)) 24)) ∧ Row (w.alloc (.cells (bulC ⟨#[]⟩ 0 0 0 (.slice none 0 0)) 24)) w.heap.size 24 (bulC ⟨#[]⟩ 0 0 0 (.slice none 0 0)))
  clear hb1
  go_enter Tryz.func13, Tryz.ntmps13
  go_upto_region 1 with fail
  refine forget (fun V => Hid (Src W b V ∧ Row V w.heap.size 24 (bulC ⟨#[]⟩ 0 0 0 (.slice none 0 0)))) H1 ?_
  clear H1
  have hW4 : W.heap.size ≤ w.heap.size := hW
  generalize w.heap.size = g4 at *
  have h4b : g4 ≠ b := by omega
  intro Y0 H1
  go_wp2_with fail
  refine (minute_any W b Y0 H1.out.1).mono ?_
  rintro e w2 ⟨m, ⟨m1, m2⟩, rfl, hs, hg⟩
  have hb3 : Below w2.heap.size w2 (w2.alloc (.cells #[.string ⟨#[69, 68, 90, 87]⟩, .string ⟨#[75, 87, 66, 67]⟩, .string ⟨#[82, 74, 84, 68]⟩] 9)) := (Below.refl _ _).alloc (Nat.le_refl _) _
  have hs2 := hs
  have H3 := Lib.hid (⟨hs.under hb3, (H1.out.2.grown hg (fun e => h4b (by injection e))).under hb3⟩ : Src W b (w2.alloc (.cells #[.string ⟨#[69, 68, 90, 87]⟩, .string ⟨#[75, 87, 66, 67]⟩, .string ⟨#[82, 74, 84, 68]⟩] 9)) ∧ Row (w2.alloc (.cells #[.string ⟨#[69, 68, 90, 87]⟩, .string ⟨#[75, 87, 66, 67]⟩, .string ⟨#[82, 74, 84, 68]⟩] 9)) g4 24 (bulC ⟨#[]⟩ 0 0 0 (.slice none 0 0)))
  have hrl := Row.new w2 #[.string ⟨#[69, 68, 90, 87]⟩, .string ⟨#[75, 87, 66, 67]⟩, .string ⟨#[82, 74, 84, 68]⟩] 9
  have HT := Lib.hid (text_any (fun x => ctr x = true) W b (w2.alloc (.cells #[.string ⟨#[69, 68, 90, 87]⟩, .string ⟨#[75, 87, 66, 67]⟩, .string ⟨#[82, 74, 84, 68]⟩] 9)) w2.heap.size 3 3 H3.out.1 (by omega) (by omega) (by have := src_lt hs; omega) hrl.lt (fun i hi => by
    rcases (by omega : i = 0 ∨ i = 1 ∨ i = 2) with rfl | rfl | rfl
    · exact ⟨_, (hrl.cell 0).trans rfl, by decide +kernel⟩
    · exact ⟨_, (hrl.cell 1).trans rfl, by decide +kernel⟩
    · exact ⟨_, (hrl.cell 2).trans rfl, by decide +kernel⟩))
  clear hs hs2 hg hb3 hrl H1
  go_wp2_with fail
  refine HT.out.mono ?_
  rintro e w4 ⟨x, hx, rfl, hs, hg⟩
  have H4 := Lib.hid (⟨hs, H3.out.2.grown hg (fun e => h4b (by injection e))⟩ : Src W b w4 ∧ Row w4 g4 24 (bulC ⟨#[]⟩ 0 0 0 (.slice none 0 0)))
  have HXX := Lib.hid hx
  clear HT H3 hs hg hx
  go_wp2_with fail
  refine (reports_any W b w4 m n H4.out.1 hn m1 m2).mono ?_
  rintro e w5 ⟨R, v, rfl, hRn, hRL⟩
  obtain ⟨Ar, cr, ev⟩ := row_form hRL.own
  subst ev
  have HVB : Hid (∀ cor del : Int, 0 ≤ cor ∧ cor ≤ 26 → 0 ≤ del ∧ del ≤ 26 → (cor = 0 ∨ del = 0) → VdB x m cor del R) := Lib.hid (fun cor del h1 h2 h3 => ⟨HXX.out, ⟨m1, m2⟩, h1, h2, h3, by omega, fun r hr => ⟨(hRL.val r hr).1, rdb_iff.2 (rdb_near (hRL.val r hr).1.time ⟨m1, m2⟩ (hRL.val r hr).2.1 (hRL.val r hr).2.2)⟩⟩)
  have hbw4 := src_lt H4.out.1
  have hRM := hRL.rm hbw4
  have r45 := H4.out.2.grown hRL.gro (fun e => h4b (by injection e))
  have hb6 : Below w5.heap.size w5 (w5.alloc (.cells (bulC x m 0 0 (.slice Ar R.length cr)) 24)) := (Below.refl _ _).alloc (Nat.le_refl _) _
  have hw45 := hRL.gro.size
  have h46' : g4 < w5.heap.size := r45.lt
  have H6 : Hid (Ms W b w4.heap.size g4 w5.heap.size x m 0 0 R (.slice Ar R.length cr) (w5.alloc (.cells (bulC x m 0 0 (.slice Ar R.length cr)) 24))) := Lib.hid ⟨hRM.under hb6, r45.under hb6, Row.new _ _ _⟩
  have hW6' : W.heap.size ≤ w5.heap.size := by omega
  have h6b' : w5.heap.size ≠ b := by omega
  clear hRL hRM r45 hb6 H4 HXX
  go_upto_region 3 with fail
  generalize w4.heap.size = g0 at *
  refine forget (fun V => Hid (Ms W b g0 g4 w5.heap.size x m 0 0 R (.slice Ar R.length cr) V)) H6 ?_
  clear H6
  generalize w5.heap.size = g6 at *
  have h46 : g4 ≠ g6 := by omega
  have hW6 := hW6'
  have h6b := h6b'
  intro w6 H6
  go_wp2_with fail
  refine (n_any W b w6 3 H6.out.rm.src (by decide) (by decide)).mono ?_
  rintro e w7 ⟨z, ⟨z1, z2⟩, rfl, hs, hg⟩
  have H7 : Hid (Ms W b g0 g4 g6 x m 0 0 R (.slice Ar R.length cr) w7) := Lib.hid (H6.out.step h4b h6b hs hg)
  clear hs hg H6
  rcases (by omega : z = 0 ∨ z = 1 ∨ z = 2) with rfl | rfl | rfl
  · go_wp2_with fail
    refine (range_any W b w7 1 26 H7.out.rm.src (by decide) (by decide) (by decide) (by decide)).mono ?_
    rintro e w8 ⟨y, ⟨y1, y2⟩, rfl, hs, hg⟩
    have H8 : Hid (Ms W b g0 g4 g6 x m 0 0 R (.slice Ar R.length cr) w8) := Lib.hid (H7.out.step h4b h6b hs hg)
    clear hs hg H7
    have ff := H8.out.r6.thaw 2
    obtain ⟨q0, q1, q2, q3, q4⟩ := row5 H8.out.r6
    have H9 : Hid (Ms W b g0 g4 g6 x m y 0 R (.slice Ar R.length cr) (w8.setCell ⟨g6, 2, none⟩ (.int .i64 y))) := Lib.hid (H8.out.cset h46 h6b hW6 y)
    clear H8
    go_upto_region 8 with fail
    refine forget (fun V => Hid (Ms W b g0 g4 g6 x m y 0 R (.slice Ar R.length cr) V)) H9 ?_
    clear H9 ff q0 q1 q2 q3 q4
    intro w9 H9
    have f0 := H9.out.r4.thaw 0
    have f1 := H9.out.r4.thaw 1
    have f2 := H9.out.r4.thaw 2
    have f3 := H9.out.r4.thaw 3
    have f4 := H9.out.r4.thaw 4
    obtain ⟨p0, p1, p2, p3, p4⟩ := row5 H9.out.r4
    obtain ⟨q0, q1, q2, q3, q4⟩ := row5 H9.out.r6
    have HF := Lib.hid (H9.out.fin h4b hW4 (.string x) (.int .i64 m) (.int .i64 y) (.int .i64 0) (.slice Ar R.length cr))
    go_wp2_with fail
    clear f0 f1 f2 f3 f4 p0 p1 p2 p3 p4 q0 q1 q2 q3 q4
    exact bodyPost_ret (v := bulV x m y 0 (.slice Ar R.length cr)) (by obtain ⟨z0, z1, z2, z3, z4⟩ := row5 HF.out.2; simp [results, Tryz.results13, z0, z1, z2, z3, z4, go_sem]) rfl ⟨x.data.toList, m, y, 0, R, _, g0, by rw [S_of], by rw [S_of]; exact HVB.out y 0 (by omega) (by omega) (.inr rfl), hRn, HF.out.1⟩
  · go_wp2_with fail
    refine (range_any W b w7 1 26 H7.out.rm.src (by decide) (by decide) (by decide) (by decide)).mono ?_
    rintro e w8 ⟨y, ⟨y1, y2⟩, rfl, hs, hg⟩
    have H8 : Hid (Ms W b g0 g4 g6 x m 0 0 R (.slice Ar R.length cr) w8) := Lib.hid (H7.out.step h4b h6b hs hg)
    clear hs hg H7
    have ff := H8.out.r6.thaw 3
    obtain ⟨q0, q1, q2, q3, q4⟩ := row5 H8.out.r6
    have H9 : Hid (Ms W b g0 g4 g6 x m 0 y R (.slice Ar R.length cr) (w8.setCell ⟨g6, 3, none⟩ (.int .i64 y))) := Lib.hid (H8.out.dset h46 h6b hW6 y)
    clear H8
    go_upto_region 8 with fail
    refine forget (fun V => Hid (Ms W b g0 g4 g6 x m 0 y R (.slice Ar R.length cr) V)) H9 ?_
    clear H9 ff q0 q1 q2 q3 q4
    intro w9 H9
    have f0 := H9.out.r4.thaw 0
    have f1 := H9.out.r4.thaw 1
    have f2 := H9.out.r4.thaw 2
    have f3 := H9.out.r4.thaw 3
    have f4 := H9.out.r4.thaw 4
    obtain ⟨p0, p1, p2, p3, p4⟩ := row5 H9.out.r4
    obtain ⟨q0, q1, q2, q3, q4⟩ := row5 H9.out.r6
    have HF := Lib.hid (H9.out.fin h4b hW4 (.string x) (.int .i64 m) (.int .i64 0) (.int .i64 y) (.slice Ar R.length cr))
    go_wp2_with fail
    clear f0 f1 f2 f3 f4 p0 p1 p2 p3 p4 q0 q1 q2 q3 q4
    exact bodyPost_ret (v := bulV x m 0 y (.slice Ar R.length cr)) (by obtain ⟨z0, z1, z2, z3, z4⟩ := row5 HF.out.2; simp [results, Tryz.results13, z0, z1, z2, z3, z4, go_sem]) rfl ⟨x.data.toList, m, 0, y, R, _, g0, by rw [S_of], by rw [S_of]; exact HVB.out 0 y (by omega) (by omega) (.inl rfl), hRn, HF.out.1⟩
  · go_upto_region 8 with fail
    have f0 := H7.out.r4.thaw 0
    have f1 := H7.out.r4.thaw 1
    have f2 := H7.out.r4.thaw 2
    have f3 := H7.out.r4.thaw 3
    have f4 := H7.out.r4.thaw 4
    obtain ⟨p0, p1, p2, p3, p4⟩ := row5 H7.out.r4
    obtain ⟨q0, q1, q2, q3, q4⟩ := row5 H7.out.r6
    have HF := Lib.hid (H7.out.fin h4b hW4 (.string x) (.int .i64 m) (.int .i64 0) (.int .i64 0) (.slice Ar R.length cr))
    go_wp2_with fail
    clear f0 f1 f2 f3 f4 p0 p1 p2 p3 p4 q0 q1 q2 q3 q4
    exact bodyPost_ret (v := bulV x m 0 0 (.slice Ar R.length cr)) (by obtain ⟨z0, z1, z2, z3, z4⟩ := row5 HF.out.2; simp [results, Tryz.results13, z0, z1, z2, z3, z4, go_sem]) rfl ⟨x.data.toList, m, 0, 0, R, _, g0, by rw [S_of], by rw [S_of]; exact HVB.out 0 0 (by omega) (by omega) (.inl rfl), hRn, HF.out.1⟩
end Go.Proofs.YtfnlgfacadmjpaaGreatDoor.Bu
namespace Go.Proofs.YtfnlgfacadmjpaaGreatDoor.Bu
open Go.RowKit

set_option maxRecDepth 100000 in
set_option maxHeartbeats 2000000 in
/-- The reference's test of a centre's name, at any string. -/
theorem refCentre_any (s : ByteArray) (w : World) (hs : s.size ≤ 9223372036854775807) :
    Calls Tryz.prog 45 #[.string s] w fun e w' => e = .returned (.bool (ctr s)) ∧ w = w' := by
  have HC : Hid (ctr s = true ↔ s.size = 4 ∧ ∀ k (h : k < s.size), isCap s[k] = true) := Lib.hid (by
    unfold ctr
    rw [Bool.and_eq_true, decide_eq_true_iff, List.all_eq_true]
    refine and_congr_right fun _ => ⟨fun h k hk => h _ ?_, fun h b hb => ?_⟩
    · have hk' : k < s.data.toList.length := by simpa using hk
      exact List.mem_iff_getElem.2 ⟨k, hk', by simp [ByteArray.getElem_eq_getElem_data]⟩
    · obtain ⟨k, hk, rfl⟩ := List.mem_iff_getElem.1 hb
      have hk' : k < s.size := by simpa using hk
      have := h k hk'
      simpa [ByteArray.getElem_eq_getElem_data] using this)
  go_enter Tryz.func45, Tryz.ntmps45
  go_wp2_with fail
  go_loopw [3] (fun u Y => ∃ k : Nat, k ≤ s.size ∧ u = .int .i64 k ∧ Hid (∀ j (h : j < s.size), j < k → isCap s[j] = true) ∧ Y = w) (fun u _ => s.size - (intOf u).toNat)
  case atStart => exact ⟨0, Nat.zero_le _, rfl, Lib.hid (fun j _ hj => absurd hj (Nat.not_lt_zero _)), rfl⟩
  case round =>
    obtain ⟨k, hk, rfl, hall, e8⟩ := hrel
    have e8' := e8.symm
    subst e8'
    have k0 : (0 : Int) ≤ (k : Int) := by omega
    by_cases hlt : k < s.size
    · have k1 : (k : Int) < (s.size : Int) := by omega
      by_cases a1 : (s[k].toNat : Int) < 65
      · have hno : Hid (false = ctr s) := Lib.hid (by
          cases hc : ctr s
          · rfl
          · have := (HC.out.1 hc).2 k hlt
            unfold isCap at this
            rw [Bool.and_eq_true, decide_eq_true_iff, decide_eq_true_iff] at this
            omega)
        go_wp2_with fail
        go_ret
        exact ⟨by rw [← hno.out]; rfl, rfl⟩
      · by_cases a2 : (90 : Int) < (s[k].toNat : Int)
        · have hno : Hid (false = ctr s) := Lib.hid (by
            cases hc : ctr s
            · rfl
            · have := (HC.out.1 hc).2 k hlt
              unfold isCap at this
              rw [Bool.and_eq_true, decide_eq_true_iff, decide_eq_true_iff] at this
              omega)
          go_wp2_with fail
          go_ret
          exact ⟨by rw [← hno.out]; rfl, rfl⟩
        · have hall2 : Hid (∀ j (h : j < s.size), j < k + 1 → isCap s[j] = true) := Lib.hid (fun j h hj => by
            rcases Nat.lt_succ_iff_lt_or_eq.1 hj with q | q
            · exact hall.out j h q
            · subst q
              unfold isCap
              rw [Bool.and_eq_true, decide_eq_true_iff, decide_eq_true_iff]
              omega)
          clear hall
          go_wp2_with fail
          go_roundw
          case rel => exact ⟨k + 1, by omega, by go_num, hall2, trivial⟩
          case measure => simp [intOf]; omega
    · have k1 : ¬ (k : Int) < (s.size : Int) := by omega
      have hfin : Hid (((s.size : Int) == 4) = ctr s) := Lib.hid (by
        cases hc : ctr s
        · rw [beq_eq_false_iff_ne]
          intro e
          have : ctr s = true := HC.out.2 ⟨by omega, fun j h => hall.out j h (by omega)⟩
          rw [hc] at this
          cases this
        · rw [beq_iff_eq, (HC.out.1 hc).1]
          rfl)
      clear hall HC
      go_wp2_with fail
      go_ret
      exact ⟨by rw [← hfin.out]; rfl, rfl⟩
set_option maxRecDepth 100000 in
set_option maxHeartbeats 2000000 in
/-- The reference's letter of a number. -/
theorem refLetter_any (n : Int) (w : World) (h : 1 ≤ n ∧ n ≤ 26) :
    Calls Tryz.prog 70 #[.int .i64 n] w fun e w' => e = .returned (.string (S (ltr n))) ∧ Below w.heap.size w w' := by
  obtain ⟨u, hu⟩ : ∃ u : UInt8, ltr n = [u] ∧ (u.toNat : Int) = 65 + n - 1 := ⟨UInt8.ofNat (64 + n.toNat), rfl, by rw [UInt8.toNat_ofNat']; omega⟩
  have HU := Lib.hid hu.1
  have hu2 := hu.2
  clear hu
  have hb3 : Below w.heap.size w (w.alloc (.cells #[.int .u8 (u.toNat : Int)] 5)) := (Below.refl _ _).alloc (Nat.le_refl _) _
  have hrw := Row.new w #[.int .u8 (u.toNat : Int)] 5
  have hconv : (convert 40 9 (.slice (some ⟨w.heap.size, 0, none⟩) 1 1)).run Tryz.prog (w.alloc (.cells #[.int .u8 (u.toNat : Int)] 5)) = .ok (.string (S [u])) (w.alloc (.cells #[.int .u8 (u.toNat : Int)] 5)) :=
    run_convert_bytes_back _ 40 9 5 ⟨w.heap.size, 0, none⟩ 1 [u] (by kernel_rfl) (by kernel_rfl) (by kernel_rfl) (fun j hj => by
      have hj : j < 1 := hj
      obtain rfl : j = 0 := by omega
      rw [Addr.add_lit, hrw.cell]; rfl)
  rw [hu2] at hconv hb3
  have HB := Lib.hid hb3
  clear hb3 hrw hu2
  go_enter Tryz.func70, Tryz.ntmps70
  go_wp2_with fail
  go_ret
  exact ⟨by rw [HU.out]; rfl, HB.out⟩
end Go.Proofs.YtfnlgfacadmjpaaGreatDoor.Bu
