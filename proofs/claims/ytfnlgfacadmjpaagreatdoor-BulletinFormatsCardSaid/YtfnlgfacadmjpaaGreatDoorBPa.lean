/- The lines of a text. The program's readLine, at any line. Parts of a bulletin: the name of a centre, ranges, the letters of its marks; contracts of the program's functions. -/
import Derived.Test.YtfnlgfacadmjpaaGreatDoorSrc
import Derived.Lib.IndexMore
import Derived.Test.YtfnlgfacadmjpaaGreatDoorGNd
import Derived.Test.YtfnlgfacadmjpaaGreatDoorGVali
namespace Go.Proofs.YtfnlgfacadmjpaaGreatDoor.Bu
open Go.RowKit

/-- The lines of a text: each with its line feed, which only the last one can lack. -/
def lns : List UInt8 → List (List UInt8)
  | [] => []
  | c :: r => if c = 10 then [c] :: lns r else match lns r with
    | [] => [[c]]
    | l :: ls => (c :: l) :: ls
/-- Where the first line ends. -/
def fe (s : List UInt8) : Nat := if 0 ≤ Lib.indexByte s 10 then (Lib.indexByte s 10).toNat + 1 else s.length
theorem fe_cons (c : UInt8) (r : List UInt8) : fe (c :: r) = if c = 10 then 1 else fe r + 1 := by
  by_cases h : c = 10
  · subst h
    rw [if_pos rfl]
    rfl
  · rw [if_neg h]
    have hb : (c == (10 : UInt8)) = false := by simpa using h
    unfold fe
    simp only [Lib.indexByte, hb]
    have := Lib.indexByte_ge r 10
    by_cases h1 : Lib.indexByte r 10 = -1
    · rw [h1]; simp
    · have hz : (Lib.indexByte r 10 == -1) = false := by simpa using h1
      simp only [hz, Bool.false_eq_true, if_false]
      rw [if_pos (by omega), if_pos (by omega)]
      omega
theorem lns_nil {s : List UInt8} : lns s = [] ↔ s = [] := by
  cases s with
  | nil => simp [lns]
  | cons c r =>
    simp only [lns]
    split
    · simp
    · split <;> simp
theorem lns_step : ∀ {s : List UInt8}, s ≠ [] → lns s = s.take (fe s) :: lns (s.drop (fe s))
  | [], h => absurd rfl h
  | c :: r, _ => by
    rw [fe_cons]
    by_cases h : c = 10
    · subst h
      simp [lns]
    · rw [if_neg h]
      simp only [lns, if_neg h, List.take_succ_cons, List.drop_succ_cons]
      by_cases hr : r = []
      · subst hr
        rfl
      · rw [lns_step hr]
theorem fe_pos {s : List UInt8} (h : s ≠ []) : 1 ≤ fe s ∧ fe s ≤ s.length := by
  match s, h with
  | c :: r, _ =>
    rw [fe_cons]
    split
    · simp
    · by_cases hr : r = []
      · subst hr; simp [fe, Lib.indexByte]
      · have := fe_pos hr; simp; omega
theorem lns_len (s : List UInt8) : ∀ l ∈ lns s, l.length ≤ s.length := by
  match s with
  | [] => intro l hl; cases hl
  | c :: r =>
    intro l hl
    have hp := fe_pos (s := c :: r) (by simp)
    rw [lns_step (by simp)] at hl
    rcases List.mem_cons.1 hl with rfl | hl
    · simp only [List.length_take]; omega
    · have := lns_len _ l hl
      simp only [List.length_drop] at this
      omega
termination_by s.length
decreasing_by simp only [List.length_drop]; omega
/-- A line that has its line feed, and more. -/
theorem lns_app : ∀ {a : List UInt8} (b : List UInt8), (∀ c ∈ a, c ≠ 10) → lns (a ++ 10 :: b) = (a ++ [10]) :: lns b
  | [], b, _ => by simp [lns]
  | c :: r, b, h => by
    have hc : c ≠ 10 := h c (by simp)
    rw [List.cons_append]
    simp only [lns, if_neg hc]
    rw [lns_app b (fun x hx => h x (by simp [hx]))]
    rfl
theorem lns_last {a : List UInt8} (h : ∀ c ∈ a, c ≠ 10) : lns a = if a = [] then [] else [a] := by
  induction a with
  | nil => rfl
  | cons c r ih =>
    have hc : c ≠ 10 := h c (by simp)
    rw [if_neg (by simp)]
    simp only [lns, if_neg hc]
    rw [ih (fun x hx => h x (by simp [hx]))]
    by_cases hr : r = []
    · subst hr; rfl
    · rw [if_neg hr]
theorem lns_join : ∀ (A : List (List UInt8)) (b : List UInt8), (∀ a ∈ A, ∀ c ∈ a, c ≠ 10) → lns ((A.map (· ++ [10])).flatten ++ b) = A.map (· ++ [10]) ++ lns b
  | [], b, _ => rfl
  | a :: A, b, h => by
    simp only [List.map_cons, List.flatten_cons, List.append_assoc, List.cons_append]
    rw [List.nil_append, lns_app _ (h a (by simp)), lns_join A b (fun x hx => h x (by simp [hx]))]
/-- The first byte that is a line feed cuts. -/
theorem idx_app : ∀ {a : List UInt8} (b : List UInt8), (∀ c ∈ a, c ≠ 10) → Lib.index (a ++ 10 :: b) [10] = a.length
  | [], b, _ => by simp [Lib.index]
  | c :: r, b, h => by
    have hc : ((10 : UInt8) == c) = false := by simpa using Ne.symm (h c (by simp))
    have ih := idx_app (a := r) b (fun x hx => h x (by simp [hx]))
    rw [List.cons_append]
    simp only [Lib.index, List.isPrefixOf, hc, Bool.false_and, Bool.false_eq_true, if_false, ih]
    have : ((r.length : Int) == -1) = false := by simp
    rw [this]
    simp
theorem cut_app {a : List UInt8} (b : List UInt8) (h : ∀ c ∈ a, c ≠ 10) : Lib.cut (a ++ 10 :: b) [10] = (a, b, true) := by
  unfold Lib.cut
  rw [idx_app b h, if_pos (by omega)]
  simp
/-- The lines with their numbers, from k on. -/
def nums (k : Nat) : List (List UInt8) → List (Nat × List UInt8)
  | [] => []
  | l :: ls => (k, l) :: nums (k + 1) ls
theorem nums_len (ls : List (List UInt8)) : ∀ k, (nums k ls).length = ls.length := by
  induction ls with
  | nil => intro k; rfl
  | cons l ls ih => intro k; simp [nums, ih]
theorem nums_app (a b : List (List UInt8)) : ∀ k, nums k (a ++ b) = nums k a ++ nums (k + a.length) b := by
  induction a with
  | nil => intro k; rfl
  | cons l ls ih => intro k; simp [nums, ih, Nat.add_assoc, Nat.add_comm 1]
end Go.Proofs.YtfnlgfacadmjpaaGreatDoor.Bu
namespace Go.Proofs.YtfnlgfacadmjpaaGreatDoor.Bu
open Go.RowKit

/-- The end of a report's line. -/
def ends : List UInt8 := [61, 10]
/-- A line's reading: the text of a report, with its end. -/
def Rld (l : List UInt8) (near k : Int) (nm : List UInt8) (t F A B C : Int) (L : List El.Elt.R) : Prop := ∃ x, l = x ++ ends ∧ Psd x near k nm t F A B C L
theorem Rld.one {l : List UInt8} {near k k' t t' F A B C F' A' B' C' : Int} {nm nm' : List UInt8} {L L' : List El.Elt.R} (h : Rld l near k nm t F A B C L) (h' : Rld l near k' nm' t' F' A' B' C' L') :
    k = k' ∧ nm = nm' ∧ t = t' ∧ F = F' ∧ A = A' ∧ B = B' ∧ C = C' ∧ L = L' := by
  obtain ⟨x, rfl, hx, -⟩ := h
  obtain ⟨y, e, hy, -⟩ := h'
  obtain rfl := List.append_cancel_right e
  exact hx.one hy
/-- What readLine leaves. -/
def RlO (l : List UInt8) (near : Int) (w : World) (e : Ending) (w' : World) : Prop :=
  (∃ (k : Int) (nm : List UInt8) (t F A B C : Int) (L : List El.Elt.R) (u : Value), Rld l near k nm t F A B C L ∧ e = .returned (.tuple #[repV k (S nm) t F A B C u, .int .i64 0]) ∧ El.RdIn w' u L ∧ Below w.heap.size w w' ∧ ∀ i, u.ownBlock = some i → w.heap.size ≤ i) ∨
  ((∀ k nm t F A B C L, ¬ Rld l near k nm t F A B C L) ∧ e = .returned (.tuple #[repV 0 ⟨#[]⟩ 0 0 0 0 0 (.slice none 0 0), .int .i64 3]) ∧ Below w.heap.size w w')
theorem ends_cut {l : List UInt8} : (∃ x, l = x ++ ends ∧ Lib.hasSuffix l ends = true ∧ Lib.trimSuffix l ends = x) ∨ ((∀ x, l ≠ x ++ ends) ∧ Lib.hasSuffix l ends = false) := by
  cases h : Lib.hasSuffix l ends
  · refine .inr ⟨fun x e => ?_, rfl⟩
    rw [e] at h
    unfold Lib.hasSuffix at h
    rw [List.isSuffixOf_iff_suffix.2 (List.suffix_append _ _)] at h
    cases h
  · have h0 := h
    unfold Lib.hasSuffix at h
    obtain ⟨x, rfl⟩ := List.isSuffixOf_iff_suffix.1 h
    refine .inl ⟨x, rfl, rfl, ?_⟩
    unfold Lib.trimSuffix
    rw [if_pos h0]
    simp
set_option maxRecDepth 100000 in
set_option maxHeartbeats 2000000 in
theorem readLine_any (l : List UInt8) (near : Int) (w : World) (hE : Env w) (hn : 0 ≤ near ∧ near ≤ 52595999) (hs : l.length ≤ 4000) :
    Calls Tryz.prog 54 #[.string (S l), .int .i64 near] w (RlO l near w) := by
  have hPO : ∀ e w', RlO l near w e w' = ((∃ (k : Int) (nm : List UInt8) (t F A B C : Int) (L : List El.Elt.R) (u : Value), Rld l near k nm t F A B C L ∧ e = .returned (.tuple #[repV k (S nm) t F A B C u, .int .i64 0]) ∧ El.RdIn w' u L ∧ Below w.heap.size w w' ∧ ∀ i, u.ownBlock = some i → w.heap.size ≤ i) ∨
  ((∀ k nm t F A B C L, ¬ Rld l near k nm t F A B C L) ∧ e = .returned (.tuple #[repV 0 ⟨#[]⟩ 0 0 0 0 0 (.slice none 0 0), .int .i64 3]) ∧ Below w.heap.size w w')) := fun _ _ => rfl
  have HPO := Lib.hid hPO
  clear hPO
  have hcs := fun w => Tryz.strings_CutSuffix (S l) (S ends) w (by rw [S_size]; omega)
  simp only [S_list] at hcs
  rw [show S ends = ⟨#[61, 10]⟩ from rfl] at hcs
  generalize hq : RlO l near w = QQ at *
  have b6 := (Below.refl w.heap.size w).alloc (Nat.le_refl _) (.cells (repC 0 ⟨#[]⟩ 0 0 0 0 0 (.slice none 0 0)) 53)
  have r6 := Row.new w (repC 0 ⟨#[]⟩ 0 0 0 0 0 (.slice none 0 0)) 53
  have hE6 := hE.under b6
  have HLS := Lib.hid hs
  rcases @ends_cut l with ⟨x, hx, h1, h2⟩ | ⟨hno, h1⟩
  · rw [h1, h2] at hcs
    have hPa := Lib.hid (fun w hE => parse_any x near w hE hn (by have := HLS.out; rw [hx] at this; simp [ends] at this; omega))
    have HX := Lib.hid hx
    clear hq hs hx h1 h2 hE
    generalize S l = sv at *
    rw [show (⟨x.toArray⟩ : ByteArray) = S x from rfl] at hcs
    generalize hy : S x = sx at *
    have HY := Lib.hid hy
    clear hy
    go_enter Tryz.func54, Tryz.ntmps54
    go_wp2_with (refine (hcs _).mono ?_; rintro e w' ⟨rfl, rfl⟩)
    generalize (w.alloc (.cells (repC 0 ⟨#[]⟩ 0 0 0 0 0 (.slice none 0 0)) 53)) = W0 at *
    refine (hPa.out _ hE6).mono ?_
    rintro e w1 (⟨k, nm, t, F, A, B, C, L, u, hP, rfl, hR, g1, hO⟩ | ⟨hno, rfl, g1⟩)
    · have hO' := Lib.hid (fun i e => Nat.le_trans b6.size (hO i e))
      have hN := Lib.hid (fun i e => Nat.ne_of_gt (Nat.lt_of_lt_of_le r6.lt (hO i e)))
      obtain ⟨Au, cu, rfl, -⟩ := id hR
      have b6' := b6.trans (g1.mono b6.size)
      have r6' := r6.under g1
      clear b6 r6 hE6 g1 hO
      have b6 := b6'
      have r6 := r6'
      clear b6' r6' hcs hPa
      have HR := Lib.hid hR
      have HP := Lib.hid hP
      clear hR hP
      generalize hnm : S nm = nb at *
      have HNM := Lib.hid hnm; clear hnm
      have f0 := r6.thaw 0
      have f1 := r6.thaw 1
      have f2 := r6.thaw 2
      have f3 := r6.thaw 3
      have f4 := r6.thaw 4
      have f5 := r6.thaw 5
      have f6 := r6.thaw 6
      have f7 := r6.thaw 7
      obtain ⟨q0, q1, q2, q3, q4, q5, q6, q7⟩ := row8 r6
      have HZ := Lib.hid (set8_row (.int .i64 k) (.string nb) (.int .i64 t) (.int .i64 F) (.int .i64 A) (.int .i64 B) (.int .i64 C) (.slice Au L.length cu) r6)
      have HF := Lib.hid (set8_below (u0 := .int .i64 k) (u1 := .string nb) (u2 := .int .i64 t) (u3 := .int .i64 F) (u4 := .int .i64 A) (u5 := .int .i64 B) (u6 := .int .i64 C) (u7 := .slice Au L.length cu) b6 (Nat.le_refl _))
      clear b6 r6
      go_wp2_with fail
      clear f0 f1 f2 f3 f4 f5 f6 f7 q0 q1 q2 q3 q4 q5 q6 q7
      exact bodyPost_ret (v := .tuple #[.agg #[.int .i64 k, .string nb, .int .i64 t, .int .i64 F, .int .i64 A, .int .i64 B, .int .i64 C, .slice Au L.length cu], .int .i64 0]) (by obtain ⟨z0, z1, z2, z3, z4, z5, z6, z7⟩ := row8 HZ.out; simp [results, Tryz.results54, z0, z1, z2, z3, z4, z5, z6, z7, go_sem]) rfl (by
        rw [HPO.out]
        exact .inl ⟨k, nm, t, F, A, B, C, L, _, ⟨x, HX.out, HP.out⟩, by rw [HNM.out], rdIn_set HR.out hN.out _ _ _ _ _ _ _ _, HF.out, hO'.out⟩)
    · have b6' := b6.trans (g1.mono b6.size)
      have r6' := r6.under g1
      clear b6 r6 hE6 g1
      have b6 := b6'
      have r6 := r6'
      clear b6' r6' hcs hPa
      have HNO := Lib.hid hno
      clear hno
      have f0 := r6.thaw 0
      have f1 := r6.thaw 1
      have f2 := r6.thaw 2
      have f3 := r6.thaw 3
      have f4 := r6.thaw 4
      have f5 := r6.thaw 5
      have f6 := r6.thaw 6
      have f7 := r6.thaw 7
      obtain ⟨q0, q1, q2, q3, q4, q5, q6, q7⟩ := row8 r6
      have HZ := Lib.hid (set8_row (.int .i64 0) (.string ⟨#[]⟩) (.int .i64 0) (.int .i64 0) (.int .i64 0) (.int .i64 0) (.int .i64 0) (.slice none 0 0) r6)
      have HF := Lib.hid (set8_below (u0 := .int .i64 0) (u1 := .string ⟨#[]⟩) (u2 := .int .i64 0) (u3 := .int .i64 0) (u4 := .int .i64 0) (u5 := .int .i64 0) (u6 := .int .i64 0) (u7 := .slice none 0 0) b6 (Nat.le_refl _))
      clear b6 r6
      go_wp2_with fail
      clear f0 f1 f2 f3 f4 f5 f6 f7 q0 q1 q2 q3 q4 q5 q6 q7
      exact bodyPost_ret (v := .tuple #[.agg #[.int .i64 0, .string ⟨#[]⟩, .int .i64 0, .int .i64 0, .int .i64 0, .int .i64 0, .int .i64 0, .slice none 0 0], .int .i64 3]) (by obtain ⟨z0, z1, z2, z3, z4, z5, z6, z7⟩ := row8 HZ.out; simp [results, Tryz.results54, z0, z1, z2, z3, z4, z5, z6, z7, go_sem]) rfl (by
        rw [HPO.out]
        exact .inr ⟨fun k nm t F A B C L ⟨y, e, h⟩ => HNO.out _ _ _ _ _ _ _ _ (by obtain rfl := List.append_cancel_right (HX.out.symm.trans e); exact h), rfl, HF.out⟩)
  · rw [h1] at hcs
    have HNO := Lib.hid hno
    clear hq hs hno h1 hE
    generalize S l = sv at *
    generalize (⟨(Lib.trimSuffix l ends).toArray⟩ : ByteArray) = tx at hcs
    go_enter Tryz.func54, Tryz.ntmps54
    go_upto_region 1 with fail
    generalize (w.alloc (.cells (repC 0 ⟨#[]⟩ 0 0 0 0 0 (.slice none 0 0)) 53)) = W0 at *
    have f0 := r6.thaw 0
    have f1 := r6.thaw 1
    have f2 := r6.thaw 2
    have f3 := r6.thaw 3
    have f4 := r6.thaw 4
    have f5 := r6.thaw 5
    have f6 := r6.thaw 6
    have f7 := r6.thaw 7
    obtain ⟨q0, q1, q2, q3, q4, q5, q6, q7⟩ := row8 r6
    have HZ := Lib.hid (set8_row (.int .i64 0) (.string ⟨#[]⟩) (.int .i64 0) (.int .i64 0) (.int .i64 0) (.int .i64 0) (.int .i64 0) (.slice none 0 0) r6)
    have HF := Lib.hid (set8_below (u0 := .int .i64 0) (u1 := .string ⟨#[]⟩) (u2 := .int .i64 0) (u3 := .int .i64 0) (u4 := .int .i64 0) (u5 := .int .i64 0) (u6 := .int .i64 0) (u7 := .slice none 0 0) b6 (Nat.le_refl _))
    clear b6 r6
    go_wp2_with (refine (hcs _).mono ?_; rintro e w' ⟨rfl, rfl⟩)
    clear f0 f1 f2 f3 f4 f5 f6 f7 q0 q1 q2 q3 q4 q5 q6 q7
    exact bodyPost_ret (v := .tuple #[.agg #[.int .i64 0, .string ⟨#[]⟩, .int .i64 0, .int .i64 0, .int .i64 0, .int .i64 0, .int .i64 0, .slice none 0 0], .int .i64 3]) (by obtain ⟨z0, z1, z2, z3, z4, z5, z6, z7⟩ := row8 HZ.out; simp [results, Tryz.results54, z0, z1, z2, z3, z4, z5, z6, z7, go_sem]) rfl (by
      rw [HPO.out]
      exact .inr ⟨fun k nm t F A B C L ⟨y, e, h⟩ => HNO.out y e, rfl, HF.out⟩)
end Go.Proofs.YtfnlgfacadmjpaaGreatDoor.Bu
namespace Go.Proofs.YtfnlgfacadmjpaaGreatDoor.Bu
open Go.RowKit

/-- A capital letter. -/
def isCap (c : UInt8) : Bool := decide (65 ≤ c.toNat) && decide (c.toNat ≤ 90)
/-- The name of a centre. -/
def ctr (s : ByteArray) : Bool := decide (s.size = 4) && s.data.toList.all isCap
def caps : ByteArray := ⟨#[65, 66, 67, 68, 69, 70, 71, 72, 73, 74, 75, 76, 77, 78, 79, 80, 81, 82, 83, 84, 85, 86, 87, 88, 89, 90]⟩
theorem caps_has : caps.data.toList.contains = isCap := by
  funext c
  have : ∀ n : Fin 256, caps.data.toList.contains (UInt8.ofNat n.val) = isCap (UInt8.ofNat n.val) := by decide +kernel
  have h := this ⟨c.toNat, c.toNat_lt⟩
  rw [UInt8.ofNat_toNat] at h
  exact h
/-- The number of a letter, 0 if it is none. -/
def lno (c : UInt8) : Int := if isCap c then (c.toNat : Int) - 64 else 0
theorem index_caps (c : UInt8) : Lib.indexByte caps.data.toList c + 1 = lno c := by
  have : ∀ n : Fin 256, Lib.indexByte caps.data.toList (UInt8.ofNat n.val) + 1 = lno (UInt8.ofNat n.val) := by decide +kernel
  have h := this ⟨c.toNat, c.toNat_lt⟩
  rw [UInt8.ofNat_toNat] at h
  exact h
/-- The letter with a number. -/
def ltr (n : Int) : List UInt8 := [UInt8.ofNat (64 + n.toNat)]
theorem caps_at (n : Nat) (h : n < 26) : caps.extract n (n + 1) = S (ltr ((n : Int) + 1)) := by
  have : ∀ n : Fin 26, (caps.extract n.val (n.val + 1)).data.toList = ltr ((n.val : Int) + 1) := by decide +kernel
  rw [← this ⟨n, h⟩, S_of]
set_option maxHeartbeats 400000 in
theorem validCentre_any (s : ByteArray) (w : World) :
    Calls Tryz.prog 41 #[.string s] w fun e w' => e = .returned (.bool (ctr s)) ∧ Below w.heap.size w w' := by
  by_cases hs : s.size = 4
  · have q : ((s.size : Int) == 4) = true := by rw [hs]; rfl
    have T := trim_any s caps
    cases hc : s.data.toList.all isCap
    · have x := nonempty_ne (trim_some (cs := caps.data.toList) (by rw [caps_has]; exact hc))
      have N := Lib.hid (show ctr s = false by unfold ctr; rw [hc, Bool.and_false])
      generalize Lib.trimS s.data.toList caps.data.toList = l at *
      generalize hy : (⟨l.toArray⟩ : ByteArray) = y at *
      have HY := Lib.hid hy; clear hy hc
      go_enter Tryz.func41, Tryz.ntmps41
      go_wp2_with fail
      refine (T _ (by omega) (by omega) (by decide) (by decide) (by decide)).mono ?_
      rintro e w1 ⟨rfl, g1⟩
      go_wp2_with fail
      go_ret
      exact ⟨ret_bool (by rw [N.out]), g1⟩
    · have x := empty_eq
      rw [show Lib.trimS s.data.toList caps.data.toList = [] from trim_all (by rw [caps_has]; exact hc)] at T
      have N := Lib.hid (show ctr s = true by unfold ctr; rw [hc, hs]; rfl)
      generalize hy : (⟨([] : List UInt8).toArray⟩ : ByteArray) = y at *
      have HY := Lib.hid hy; clear hy hc
      go_enter Tryz.func41, Tryz.ntmps41
      go_wp2_with fail
      refine (T _ (by omega) (by omega) (by decide) (by decide) (by decide)).mono ?_
      rintro e w1 ⟨rfl, g1⟩
      go_wp2_with fail
      go_ret
      exact ⟨ret_bool (by rw [N.out]), g1⟩
  · have q : ((s.size : Int) == 4) = false := by rw [beq_eq_false_iff_ne]; omega
    have N := Lib.hid (show ctr s = false by unfold ctr; rw [decide_eq_false hs]; rfl)
    clear hs
    go_enter Tryz.func41, Tryz.ntmps41
    go_wp2_with fail
    go_ret
    exact ⟨ret_bool (by rw [N.out]), Below.refl _ _⟩

set_option maxHeartbeats 400000 in
theorem within_any (n most : Int) (w : World) :
    Calls Tryz.prog 42 #[.int .i64 n, .int .i64 most] w fun e w' => e = .returned (.bool (decide (0 ≤ n ∧ n ≤ most))) ∧ w = w' := by
  by_cases h1 : 0 ≤ n
  · by_cases h2 : n ≤ most
    all_goals
      have N : (decide (0 ≤ n ∧ n ≤ most)) = (decide (n ≤ most)) := by simp [h1]
      rw [N]
      go_enter Tryz.func42, Tryz.ntmps42
      go_wp2_with fail
      go_ret
      simp [h2]
  · have N : (decide (0 ≤ n ∧ n ≤ most)) = false := by simp [h1]
    rw [N]
    go_enter Tryz.func42, Tryz.ntmps42
    go_wp2_with fail
    go_ret
    exact ⟨rfl, rfl⟩
set_option maxHeartbeats 400000 in
theorem letter_any (n : Nat) (w : World) (h : n < 26) :
    Calls Tryz.prog 65 #[.int .i64 ((n : Int) + 1)] w fun e w' => e = .returned (.string (S (ltr ((n : Int) + 1)))) ∧ w = w' := by
  have hc := caps_at n h
  have h0 : (0 : Int) ≤ (n : Int) := by omega
  have h1 : (n : Int) + 1 - 1 = (n : Int) := by omega
  have hcs : caps.size = 26 := rfl
  have HC := Lib.hid hc
  clear hc
  have h2 : (n : Int) ≤ (n : Int) + 1 := by omega
  have h3 : (n : Int) + 1 ≤ 26 := by omega
  have h4 : ((n : Int) + 1).toNat = n + 1 := by omega
  have xw : IntKind.i64.wrap (n : Int) = (n : Int) := IntWalk.i64_in _ (by omega)
  go_enter Tryz.func65, Tryz.ntmps65
  go_wp2_with fail
  go_ret
  exact ⟨by rw [← HC.out]; rfl, rfl⟩
/-- What a word says: a mark's beginning and the number of its letter; 0 if it is none. -/
def cnt (p x : List UInt8) : Int := if Lib.hasPrefix x p = true then (match x.drop p.length with | [c] => lno c | _ => 0) else 0
theorem cnt_rng (p x : List UInt8) : 0 ≤ cnt p x ∧ cnt p x ≤ 26 := by
  have hl : ∀ c, 0 ≤ lno c ∧ lno c ≤ 26 := fun c => by
    unfold lno isCap
    split
    · rename_i h; simp at h; omega
    · omega
  unfold cnt
  split
  · split
    · exact hl _
    · omega
  · omega
set_option maxHeartbeats 800000 in
theorem count_any (x p : List UInt8) (w : World) (hx : x.length ≤ 100000) :
    Calls Tryz.prog 89 #[.string (S x), .string (S p)] w fun e w' => e = .returned (.int .i64 (cnt p x)) ∧ w = w' := by
  have HC := Lib.hid (fun W => Tryz.strings_CutPrefix (S x) (S p) W)
  rw [S_list, S_list] at HC
  by_cases hf : Lib.hasPrefix x p = true
  · have ht : Lib.trimPrefix x p = x.drop p.length := by unfold Lib.trimPrefix; rw [if_pos hf]
    have hn : cnt p x = (match x.drop p.length with | [c] => lno c | _ => 0) := by unfold cnt; rw [if_pos hf]
    rw [hf, ht] at HC
    rw [hn]
    have hr : (x.drop p.length).length ≤ 100000 := by rw [List.length_drop]; omega
    clear hn ht hf
    generalize x.drop p.length = r at *
    rcases r with _ | ⟨c, _ | ⟨d, r⟩⟩
    · go_enter Tryz.func89, Tryz.ntmps89
      go_wp2_with fail
      refine (HC.out _).mono ?_
      rintro e w1 ⟨rfl, rfl⟩
      go_wp2_with fail
      go_ret
      exact ⟨rfl, rfl⟩
    · have HI := Lib.hid (fun W => Tryz.strings_Index_one caps c W)
      have hl := index_caps c
      have hlo : -1 ≤ Lib.indexByte caps.data.toList c := Lib.indexByte_ge _ _
      have hhi : lno c ≤ 26 := by have := cnt_rng [] [c]; unfold cnt at this; simpa [Lib.hasPrefix] using this.2
      show Calls _ _ _ _ fun e w' => e = .returned (.int .i64 (lno c)) ∧ w = w'
      rw [← hl] at hhi ⊢
      clear hl
      generalize Lib.indexByte caps.data.toList c = ix at *
      have hsz : (⟨[c].toArray⟩ : ByteArray).size = 1 := rfl
      have xw : IntKind.i64.wrap (ix + 1) = ix + 1 := IntWalk.i64_in _ (by omega)
      clear hlo hhi
      go_enter Tryz.func89, Tryz.ntmps89
      go_wp2_with fail
      refine (HC.out _).mono ?_
      rintro e w1 ⟨rfl, rfl⟩
      go_wp2_with fail
      refine (HI.out _).mono ?_
      rintro e w1 ⟨rfl, rfl⟩
      go_wp2_with fail
      go_ret
      exact ⟨rfl, rfl⟩
    · have hsz : (⟨(c :: d :: r).toArray⟩ : ByteArray).size = r.length + 2 := rfl
      have q : (((r.length : Int) + 2) != 1) = true := by rw [bne_iff_ne]; omega
      go_enter Tryz.func89, Tryz.ntmps89
      go_wp2_with fail
      refine (HC.out _).mono ?_
      rintro e w1 ⟨rfl, rfl⟩
      go_wp2_with fail
      go_ret
      exact ⟨rfl, rfl⟩
  · have hf' : Lib.hasPrefix x p = false := by simpa using hf
    have hn : cnt p x = 0 := by unfold cnt; rw [if_neg hf]
    rw [hf'] at HC
    rw [hn]
    clear hf hf' hn
    go_enter Tryz.func89, Tryz.ntmps89
    go_wp2_with fail
    refine (HC.out _).mono ?_
    rintro e w1 ⟨rfl, rfl⟩
    go_wp2_with fail
    go_ret
    exact ⟨rfl, rfl⟩
end Go.Proofs.YtfnlgfacadmjpaaGreatDoor.Bu
