/- Which reports are valid: names, places, codes; contracts of the program's validName, validPlace and Validate. Contract of the program's Validate. -/
import Derived.Test.YtfnlgfacadmjpaaGreatDoorPNormal
import Derived.Test.YtfnlgfacadmjpaaGreatDoorEVal2
import Derived.Test.YtfnlgfacadmjpaaGreatDoorShelf
import Derived.Shelf.Strings.SlTrimAscii
namespace Go.Proofs.YtfnlgfacadmjpaaGreatDoor
open Go.RowKit

/-- A byte of a name. -/
def isCh (c : UInt8) : Bool := (decide (65 ≤ c.toNat) && decide (c.toNat ≤ 90)) || (decide (48 ≤ c.toNat) && decide (c.toNat ≤ 57))
def nameOk (s : ByteArray) : Bool := decide (s.size = 5) && s.data.toList.all isCh
theorem drop_all {p : UInt8 → Bool} : ∀ l : List UInt8, (∀ c ∈ l, p c = true) → l.dropWhile p = []
  | [], _ => rfl
  | x :: l, h => by rw [List.dropWhile_cons, if_pos (h x (by simp))]; exact drop_all l fun c hc => h c (by simp [hc])
theorem drop_mem {p : UInt8 → Bool} {c : UInt8} (hn : p c = false) : ∀ l : List UInt8, c ∈ l → c ∈ l.dropWhile p
  | [], h => by cases h
  | x :: l, h => by
    rw [List.dropWhile_cons]
    split
    · rename_i hcx
      rcases List.mem_cons.1 h with rfl | hx
      · rw [hn] at hcx; cases hcx
      · exact drop_mem hn l hx
    · exact h
theorem trim_all {l cs : List UInt8} (h : l.all cs.contains = true) : Lib.trimS l cs = [] := by
  have hr : Lib.trimRightS l cs = [] := by
    unfold Lib.trimRightS
    rw [drop_all _ fun c hc => List.all_eq_true.1 h c (List.mem_reverse.1 hc)]
    rfl
  unfold Lib.trimS; rw [hr]; rfl
theorem trim_some {l cs : List UInt8} (h : l.all cs.contains = false) : Lib.trimS l cs ≠ [] := by
  intro e
  obtain ⟨c, hc, hn⟩ : ∃ c ∈ l, cs.contains c = false := by
    rw [List.all_eq_false] at h
    obtain ⟨c, hc, hn⟩ := h
    exact ⟨c, hc, by simpa using hn⟩
  have hm : c ∈ Lib.trimS l cs := by
    unfold Lib.trimS Lib.trimLeftS Lib.trimRightS
    exact drop_mem hn _ (List.mem_reverse.2 (drop_mem hn _ (List.mem_reverse.2 hc)))
  rw [e] at hm
  cases hm
theorem trim_any (s cs : ByteArray) (w : World) (h0 : 0 < s.size) (hs : s.size ≤ 100000) (h2 : 2 ≤ cs.size) (h3 : cs.size < 1000) (ha : ∀ c ∈ cs.data.toList, c.toNat < 128) :
    Calls Tryz.prog 74 #[.string s, .string cs] w fun e w' => e = .returned (.string ⟨(Lib.trimS s.data.toList cs.data.toList).toArray⟩) ∧ Below w.heap.size w w' :=
  (Any.strings_Trim_set Tryz.lays160 (fun _ => by kernel_rfl) (by kernel_rfl) s cs w h2 h0 (by omega) (by omega) (fun j b hb => ha b (List.mem_of_getElem? hb))).mono
    fun e w' ⟨he, q, hw⟩ => ⟨he, hw ▸ below_drewN (((Below.refl _ _).alloc (Nat.le_refl _) _).alloc (by simp) _) q⟩
def chs : ByteArray := ⟨#[65, 66, 67, 68, 69, 70, 71, 72, 73, 74, 75, 76, 77, 78, 79, 80, 81, 82, 83, 84, 85, 86, 87, 88, 89, 90, 48, 49, 50, 51, 52, 53, 54, 55, 56, 57]⟩
theorem chs_has : chs.data.toList.contains = isCh := by
  funext c
  have : ∀ n : Fin 256, chs.data.toList.contains (UInt8.ofNat n.val) = isCh (UInt8.ofNat n.val) := by decide +kernel
  have h := this ⟨c.toNat, c.toNat_lt⟩
  rw [UInt8.ofNat_toNat] at h
  exact h
theorem nonempty_ne {l : List UInt8} (h : l ≠ []) : ((⟨l.toArray⟩ : ByteArray).toList == []) = false := by
  rw [ByteArray.toList_eq]; simp [h]
theorem empty_eq : ((⟨([] : List UInt8).toArray⟩ : ByteArray).toList == []) = true := by rw [ByteArray.toList_eq]; rfl
set_option maxHeartbeats 400000 in
theorem validName_any (s : ByteArray) (w : World) :
    Calls Tryz.prog 75 #[.string s] w fun e w' => e = .returned (.bool (nameOk s)) ∧ Below w.heap.size w w' := by
  by_cases hs : s.size = 5
  · have q : ((s.size : Int) == 5) = true := by rw [hs]; rfl
    have T := trim_any s chs
    cases hc : s.data.toList.all isCh
    · have x := nonempty_ne (trim_some (cs := chs.data.toList) (by rw [chs_has]; exact hc))
      have N := Lib.hid (show nameOk s = false by unfold nameOk; rw [hc, Bool.and_false])
      generalize Lib.trimS s.data.toList chs.data.toList = l at *
      generalize hy : (⟨l.toArray⟩ : ByteArray) = y at *
      have HY := Lib.hid hy; clear hy hc
      go_enter Tryz.func75, Tryz.ntmps75
      go_wp2_with fail
      refine (T _ (by omega) (by omega) (by decide) (by decide) (by decide)).mono ?_
      rintro e w1 ⟨rfl, g1⟩
      go_wp2_with fail
      go_ret
      exact ⟨ret_bool (by rw [N.out]), g1⟩
    · have x := empty_eq
      rw [show Lib.trimS s.data.toList chs.data.toList = [] from trim_all (by rw [chs_has]; exact hc)] at T
      have N := Lib.hid (show nameOk s = true by unfold nameOk; rw [hc, hs]; rfl)
      generalize hy : (⟨([] : List UInt8).toArray⟩ : ByteArray) = y at *
      have HY := Lib.hid hy; clear hy hc
      go_enter Tryz.func75, Tryz.ntmps75
      go_wp2_with fail
      refine (T _ (by omega) (by omega) (by decide) (by decide) (by decide)).mono ?_
      rintro e w1 ⟨rfl, g1⟩
      go_wp2_with fail
      go_ret
      exact ⟨ret_bool (by rw [N.out]), g1⟩
  · have q : ((s.size : Int) == 5) = false := by rw [beq_eq_false_iff_ne]; omega
    have N := Lib.hid (show nameOk s = false by unfold nameOk; rw [decide_eq_false hs]; rfl)
    clear hs
    go_enter Tryz.func75, Tryz.ntmps75
    go_wp2_with fail
    go_ret
    exact ⟨ret_bool (by rw [N.out]), Below.refl _ _⟩

/-- A place is valid and its own normal place. -/
def nrm (F A B C : Int) : Bool := Pl.vb F A B C && (((Pl.Ico.nf F.toNat A B C : Nat) : Int) == F && Pl.nw F.toNat A B C 0 == A && Pl.nw F.toNat A B C 1 == B && Pl.nw F.toNat A B C 2 == C)
/-- The place fits the kind. -/
def plOk (k F A B C : Int) : Bool := if k = 1 then (F == 0 && A == 0 && B == 0 && C == 0) else nrm F A B C
/-- A report in a block. -/
abbrev repV (k : Int) (nm : ByteArray) (t F A B C : Int) (u : Value) : Value := .agg #[.int .i64 k, .string nm, .int .i64 t, .int .i64 F, .int .i64 A, .int .i64 B, .int .i64 C, u]
abbrev repC (k : Int) (nm : ByteArray) (t F A B C : Int) (u : Value) : Array Value := #[.int .i64 k, .string nm, .int .i64 t, .int .i64 F, .int .i64 A, .int .i64 B, .int .i64 C, u]
theorem row8 {w : World} {b : Nat} {t : TypeId} {x0 x1 x2 x3 x4 x5 x6 x7 : Value} (h : Row w b t #[x0, x1, x2, x3, x4, x5, x6, x7]) :
    w.cell? ⟨b, 0, none⟩ = some x0 ∧ w.cell? ⟨b, 1, none⟩ = some x1 ∧ w.cell? ⟨b, 2, none⟩ = some x2 ∧ w.cell? ⟨b, 3, none⟩ = some x3 ∧ w.cell? ⟨b, 4, none⟩ = some x4 ∧ w.cell? ⟨b, 5, none⟩ = some x5 ∧ w.cell? ⟨b, 6, none⟩ = some x6 ∧ w.cell? ⟨b, 7, none⟩ = some x7 :=
  ⟨(h.cell 0).trans rfl, (h.cell 1).trans rfl, (h.cell 2).trans rfl, (h.cell 3).trans rfl, (h.cell 4).trans rfl, (h.cell 5).trans rfl, (h.cell 6).trans rfl, (h.cell 7).trans rfl⟩
attribute [local go_sem] Pl.eq_place
set_option maxHeartbeats 1000000 in
theorem validPlace_any (k : Int) (nm : ByteArray) (t F A B C : Int) (u : Value) (w : World) :
    Calls Tryz.prog 76 #[repV k nm t F A B C u] w fun e w' => e = .returned (.bool (plOk k F A B C)) ∧ Below w.heap.size w w' := by
  by_cases hk : k = 1
  · subst hk
    go_enter Tryz.func76, Tryz.ntmps76
    go_wp2_with fail
    all_goals (go_ret; exact ⟨ret_bool (by unfold plOk; rw [if_pos rfl]; simp [*]), (Below.refl _ _).alloc (Nat.le_refl _) _⟩)
  · have P := Lib.hid (show plOk k F A B C = nrm F A B C by unfold plOk; rw [if_neg hk])
    have q : (k == 1) = false := beq_eq_false_iff_ne.2 hk
    clear hk
    go_enter Tryz.func76, Tryz.ntmps76
    go_wp2_with fail
    have b1 := (Below.refl w.heap.size w).alloc (Nat.le_refl _) (.cells (repC k nm t F A B C u) 53)
    have r1 := Row.new w (repC k nm t F A B C u) 53
    generalize hW1 : w.alloc (.cells (repC k nm t F A B C u) 53) = W1 at *
    cases hv : Pl.vb F A B C
    · refine (Pl.normal_no F A B C _ hv).mono ?_
      rintro e w2 ⟨rfl, g2⟩
      have N := Lib.hid (show nrm F A B C = false by unfold nrm; rw [hv]; rfl)
      have b2 := b1.trans (g2.mono b1.size)
      have r2 := r1.under g2
      clear g2 b1 r1 hW1
      go_wp2_with fail
      go_ret
      exact ⟨ret_bool (by rw [P.out, N.out]), b2.alloc b2.size _⟩
    · obtain ⟨f, rfl, hf⟩ := Pl.vb_to hv
      refine (Pl.normal_yes f A B C _ hf).mono ?_
      rintro e w2 ⟨rfl, g2⟩
      have N := Lib.hid (show nrm f A B C = (((Pl.Ico.nf f A B C : Nat) : Int) == (f : Int) && Pl.nw f A B C 0 == A && Pl.nw f A B C 1 == B && Pl.nw f A B C 2 == C) by unfold nrm; rw [hv, Bool.true_and]; rfl)
      have b2 := b1.trans (g2.mono b1.size)
      have r2 := r1.under g2
      clear g2 b1 r1 hW1 hv hf
      generalize ((Pl.Ico.nf f A B C : Nat) : Int) = n0 at *
      generalize Pl.nw f A B C 0 = n1 at *
      generalize Pl.nw f A B C 1 = n2 at *
      generalize Pl.nw f A B C 2 = n3 at *
      obtain ⟨_, _, _, c3, c4, c5, c6, _⟩ := row8 r2
      have r3 := Row.new w2 #[.int .i64 n0, .int .i64 n1, .int .i64 n2, .int .i64 n3] 50
      have hlt := r2.lt
      go_wp2_with fail
      all_goals (go_ret; exact ⟨ret_bool (by rw [P.out, N.out]; simp [*]), b2.alloc b2.size _⟩)
end Go.Proofs.YtfnlgfacadmjpaaGreatDoor
namespace Go.Proofs.YtfnlgfacadmjpaaGreatDoor
open Go.RowKit

open Classical in
/-- The first error of a report: 4, 3, 1, that of the readings, or 0. -/
noncomputable def vcode (k : Int) (nm : ByteArray) (t F A B C : Int) (L : List El.Elt.R) : Int :=
  if ¬ (1 ≤ k ∧ k ≤ 3) then 4 else if nameOk nm = false then 3 else if ¬ (0 ≤ t ∧ t ≤ 52595999 ∧ plOk k F A B C = true) then 1 else El.Elt.vld L
theorem vcode_kind {k t F A B C : Int} {nm : ByteArray} {L : List El.Elt.R} (h : ¬ (1 ≤ k ∧ k ≤ 3)) : vcode k nm t F A B C L = 4 := by unfold vcode; rw [if_pos h]
theorem vcode_name {k t F A B C : Int} {nm : ByteArray} {L : List El.Elt.R} (h : 1 ≤ k ∧ k ≤ 3) (h2 : nameOk nm = false) : vcode k nm t F A B C L = 3 := by unfold vcode; rw [if_neg (fun e => e h), if_pos h2]
theorem vcode_range {k t F A B C : Int} {nm : ByteArray} {L : List El.Elt.R} (h : 1 ≤ k ∧ k ≤ 3) (h2 : nameOk nm = true) (h3 : ¬ (0 ≤ t ∧ t ≤ 52595999 ∧ plOk k F A B C = true)) : vcode k nm t F A B C L = 1 := by
  unfold vcode; rw [if_neg (fun e => e h), if_neg (by rw [h2]; simp), if_pos h3]
theorem vcode_rest {k t F A B C : Int} {nm : ByteArray} {L : List El.Elt.R} (h : 1 ≤ k ∧ k ≤ 3) (h2 : nameOk nm = true) (h3 : 0 ≤ t ∧ t ≤ 52595999 ∧ plOk k F A B C = true) : vcode k nm t F A B C L = El.Elt.vld L := by
  unfold vcode; rw [if_neg (fun e => e h), if_neg (by rw [h2]; simp), if_neg (fun e => e h3)]
/-- A report is valid. -/
structure Vd (k : Int) (nm : ByteArray) (t F A B C : Int) (L : List El.Elt.R) : Prop where
  kind : 1 ≤ k ∧ k ≤ 3
  name : nameOk nm = true
  time : 0 ≤ t ∧ t ≤ 52595999
  place : plOk k F A B C = true
  list : El.Elt.vld L = 0
theorem Vd.code {k t F A B C : Int} {nm : ByteArray} {L : List El.Elt.R} (h : Vd k nm t F A B C L) : vcode k nm t F A B C L = 0 := by
  rw [vcode_rest h.kind h.name ⟨h.time.1, h.time.2, h.place⟩, h.list]
theorem Vd.of {k t F A B C : Int} {nm : ByteArray} {L : List El.Elt.R} (h : vcode k nm t F A B C L = 0) : Vd k nm t F A B C L := by
  by_cases h1 : 1 ≤ k ∧ k ≤ 3
  · cases h2 : nameOk nm
    · rw [vcode_name h1 h2] at h; omega
    · by_cases h3 : 0 ≤ t ∧ t ≤ 52595999 ∧ plOk k F A B C = true
      · rw [vcode_rest h1 h2 h3] at h
        exact ⟨h1, h2, ⟨h3.1, h3.2.1⟩, h3.2.2, h⟩
      · rw [vcode_range h1 h2 h3] at h; omega
  · rw [vcode_kind h1] at h; omega
theorem vcode_bd (k : Int) (nm : ByteArray) (t F A B C : Int) (L : List El.Elt.R) : 0 ≤ vcode k nm t F A B C L ∧ vcode k nm t F A B C L ≤ 8 := by
  unfold vcode El.Elt.vld; repeat' split
  all_goals omega
theorem validName_is (s : ByteArray) (r : Bool) (w : World) (hr : nameOk s = r) :
    Calls Tryz.prog 75 #[.string s] w fun e w' => e = .returned (.bool r) ∧ Below w.heap.size w w' := hr ▸ validName_any s w
theorem validPlace_is (k : Int) (nm : ByteArray) (t F A B C : Int) (u : Value) (r : Bool) (w : World) (hr : plOk k F A B C = r) :
    Calls Tryz.prog 76 #[repV k nm t F A B C u] w fun e w' => e = .returned (.bool r) ∧ Below w.heap.size w w' := hr ▸ validPlace_any k nm t F A B C u w
set_option maxHeartbeats 2000000 in
theorem validate_any (k : Int) (nm : ByteArray) (t F A B C : Int) (u : Value) (L : List El.Elt.R) (w : World) (hL : El.RdIn w u L) (hT : El.Tab w) :
    Calls Tryz.prog 43 #[repV k nm t F A B C u] w fun e w' => e = .returned (.int .i64 (vcode k nm t F A B C L)) ∧ Below w.heap.size w w' := by
  have b1 := (Below.refl w.heap.size w).alloc (Nat.le_refl _) (.cells (repC k nm t F A B C u) 53)
  have r1 := Row.new w (repC k nm t F A B C u) 53
  by_cases k1 : k < 1
  · have V := Lib.hid (vcode_kind (k := k) (nm := nm) (t := t) (F := F) (A := A) (B := B) (C := C) (L := L) (by omega))
    clear hL hT
    go_enter Tryz.func43, Tryz.ntmps43
    go_wp2_with fail
    go_ret
    exact ⟨ret_i64 (by rw [V.out]), b1⟩
  · by_cases k2 : k ≤ 3
    · cases hn : nameOk nm
      · have V := Lib.hid (vcode_name (k := k) (nm := nm) (t := t) (F := F) (A := A) (B := B) (C := C) (L := L) (by omega) hn)
        clear hL hT
        go_enter Tryz.func43, Tryz.ntmps43
        go_wp2_with fail
        refine (validName_is nm _ _ hn).mono ?_
        rintro e w2 ⟨rfl, g2⟩
        go_wp2_with fail
        go_ret
        exact ⟨ret_i64 (by rw [V.out]), b1.trans (g2.mono b1.size)⟩
      · by_cases t1 : t < 0
        · have V := Lib.hid (vcode_range (k := k) (nm := nm) (t := t) (F := F) (A := A) (B := B) (C := C) (L := L) (by omega) hn (by omega))
          clear hL hT
          go_enter Tryz.func43, Tryz.ntmps43
          go_wp2_with fail
          refine (validName_is nm _ _ hn).mono ?_
          rintro e w2 ⟨rfl, g2⟩
          obtain ⟨c0, c1, c2, c3, c4, c5, c6, c7⟩ := row8 (r1.under g2)
          go_wp2_with fail
          go_ret
          exact ⟨ret_i64 (by rw [V.out]), b1.trans (g2.mono b1.size)⟩
        · by_cases t2 : t ≤ 52595999
          · cases hp : plOk k F A B C
            · have V := Lib.hid (vcode_range (k := k) (nm := nm) (t := t) (F := F) (A := A) (B := B) (C := C) (L := L) (by omega) hn (by rw [hp]; simp))
              clear hL hT
              go_enter Tryz.func43, Tryz.ntmps43
              go_wp2_with fail
              refine (validName_is nm _ _ hn).mono ?_
              rintro e w2 ⟨rfl, g2⟩
              have b2 := b1.trans (g2.mono b1.size)
              have r2 := r1.under g2
              clear b1 r1 g2
              obtain ⟨c0, c1, c2, c3, c4, c5, c6, c7⟩ := row8 r2
              go_wp2_with fail
              refine (validPlace_is k nm t F A B C u _ _ hp).mono ?_
              rintro e w3 ⟨rfl, g3⟩
              go_wp2_with fail
              go_ret
              exact ⟨ret_i64 (by rw [V.out]), b2.trans (g3.mono b2.size)⟩
            · have V := Lib.hid (vcode_rest (k := k) (nm := nm) (t := t) (F := F) (A := A) (B := B) (C := C) (L := L) (by omega) hn ⟨by omega, t2, hp⟩)
              go_enter Tryz.func43, Tryz.ntmps43
              go_wp2_with fail
              refine (validName_is nm _ _ hn).mono ?_
              rintro e w2 ⟨rfl, g2⟩
              have b2 := b1.trans (g2.mono b1.size)
              have r2 := r1.under g2
              clear b1 r1 g2
              obtain ⟨c0, c1, c2, c3, c4, c5, c6, c7⟩ := row8 r2
              go_wp2_with fail
              refine (validPlace_is k nm t F A B C u _ _ hp).mono ?_
              rintro e w3 ⟨rfl, g3⟩
              have b3 := b2.trans (g3.mono b2.size)
              have r3 := r2.under g3
              clear b2 r2 g3 c0 c1 c2 c3 c4 c5 c6 c7
              obtain ⟨c0, c1, c2, c3, c4, c5, c6, c7⟩ := row8 r3
              have hL3 := hL.under b3
              have hT3 := hT.under b3
              go_wp2_with fail
              refine (El.validate_any u L _ hL3 hT3).mono ?_
              rintro e w4 ⟨rfl, g4⟩
              go_wp2_with fail
              go_ret
              exact ⟨ret_i64 (by rw [V.out]), b3.trans (g4.mono b3.size)⟩
          · have V := Lib.hid (vcode_range (k := k) (nm := nm) (t := t) (F := F) (A := A) (B := B) (C := C) (L := L) (by omega) hn (by omega))
            clear hL hT
            go_enter Tryz.func43, Tryz.ntmps43
            go_wp2_with fail
            refine (validName_is nm _ _ hn).mono ?_
            rintro e w2 ⟨rfl, g2⟩
            obtain ⟨c0, c1, c2, c3, c4, c5, c6, c7⟩ := row8 (r1.under g2)
            go_wp2_with fail
            go_ret
            exact ⟨ret_i64 (by rw [V.out]), b1.trans (g2.mono b1.size)⟩
    · have V := Lib.hid (vcode_kind (k := k) (nm := nm) (t := t) (F := F) (A := A) (B := B) (C := C) (L := L) (by omega))
      clear hL hT
      go_enter Tryz.func43, Tryz.ntmps43
      go_wp2_with fail
      go_ret
      exact ⟨ret_i64 (by rw [V.out]), b1⟩
end Go.Proofs.YtfnlgfacadmjpaaGreatDoor
