/- Texts of words with single spaces between them: in plain lists.; Contract of the program's Parse at the text of a valid report.; The sanity check of every statement of the layer. -/
import Derived.Lib.Split
import Derived.Lib.Join
import Derived.Test.YtneglkfcelpdgaaGreatDoorMze
import Derived.Test.YtneglkfcelpdgaaGreatDoorMza
import Derived.Test.YtneglkfcelpdgaaGreatDoorMm
namespace Go.Proofs.YtneglkfcelpdgaaGreatDoor.Wrd
open Go.Lib

/-- The words of a text. -/
def wd : List UInt8 → List (List UInt8)
  | [] => [[]]
  | c :: l => if c = 32 then [] :: wd l else match wd l with
    | [] => [[c]]
    | x :: r => (c :: x) :: r
theorem wd_ne : ∀ l, wd l ≠ []
  | [] => by simp [wd]
  | c :: l => by
    unfold wd; split
    · simp
    · split <;> simp
theorem wd_free : ∀ l x, x ∈ wd l → (32 : UInt8) ∉ x
  | [], x, h => by simp [wd] at h; subst h; simp
  | c :: l, x, h => by
    have ih := wd_free l
    unfold wd at h
    split at h
    · rcases List.mem_cons.1 h with rfl | h
      · simp
      · exact ih x h
    · rename_i hc
      split at h
      · simp at h; subst h; simp; exact fun e => hc e.symm
      · rename_i y r he
        rw [he] at ih
        rcases List.mem_cons.1 h with rfl | h
        · have := ih y (by simp)
          simp only [List.mem_cons, not_or]
          exact ⟨fun e => hc e.symm, this⟩
        · exact ih x (by simp [h])
theorem wd_one {x : List UInt8} (h : (32 : UInt8) ∉ x) : wd x = [x] := by
  induction x with
  | nil => rfl
  | cons c x ih =>
    simp only [List.mem_cons, not_or] at h
    unfold wd
    rw [if_neg (fun e => h.1 e.symm), ih h.2]
theorem wd_cons {x : List UInt8} (h : (32 : UInt8) ∉ x) (l : List UInt8) : wd (x ++ 32 :: l) = x :: wd l := by
  induction x with
  | nil => simp [wd]
  | cons c x ih =>
    simp only [List.mem_cons, not_or] at h
    rw [List.cons_append, wd, if_neg (fun e => h.1 e.symm), ih h.2]
/-- The words of joined words. -/
theorem wd_join : ∀ (ws : List (List UInt8)), ws ≠ [] → (∀ x ∈ ws, (32 : UInt8) ∉ x) → wd (join ws [32]) = ws
  | [x], _, h => by rw [join_one]; exact wd_one (h x (by simp))
  | x :: y :: r, _, h => by
    have e : join (x :: y :: r) [32] = x ++ 32 :: join (y :: r) [32] := by
      rw [join_cons, join_cons]; simp [joinTail]
    rw [e, wd_cons (h x (by simp)), wd_join (y :: r) (by simp) fun z hz => h z (by simp [hz])]
/-- A text is its words, joined. -/
theorem join_wd : ∀ l, join (wd l) [32] = l
  | [] => by simp [wd, join_one]
  | c :: l => by
    have ih := join_wd l
    unfold wd
    split
    · rename_i hc
      subst hc
      cases hw : wd l with
      | nil => exact absurd hw (wd_ne l)
      | cons y r =>
        rw [hw] at ih
        rw [join_cons] at ih ⊢
        simp only [joinTail, List.map_cons, List.flatten_cons, List.nil_append, List.singleton_append, List.cons_append] at ih ⊢
        rw [ih]
    · split
      · rename_i hw; exact absurd hw (wd_ne l)
      · rename_i x r hw
        rw [hw] at ih
        rw [join_cons] at ih ⊢
        rw [List.cons_append, ih]
/-- The library's cutting, at a space. -/
theorem index_none : ∀ l : List UInt8, (32 : UInt8) ∉ l → index l [32] = -1
  | [], _ => rfl
  | c :: l, h => by
    simp only [List.mem_cons, not_or] at h
    have ih := index_none l h.2
    unfold index
    have : List.isPrefixOf [32] (c :: l) = false := by simp [List.isPrefixOf]; exact h.1
    simp [this, ih]
theorem index_at {x : List UInt8} (h : (32 : UInt8) ∉ x) (l : List UInt8) : index (x ++ 32 :: l) [32] = x.length := by
  induction x with
  | nil => simp [index, List.isPrefixOf]
  | cons c x ih =>
    simp only [List.mem_cons, not_or] at h
    have ih := ih h.2
    rw [List.cons_append]
    unfold index
    have hp : List.isPrefixOf [32] (c :: (x ++ 32 :: l)) = false := by simp [List.isPrefixOf]; exact h.1
    rw [hp, ih]
    have : ((x.length : Int) == -1) = false := by rw [beq_eq_false_iff_ne]; omega
    simp [this]
theorem splitK_zero (l : List UInt8) : splitK [32] 0 0 l = [l] := rfl
theorem splitK_none (k : Nat) {l : List UInt8} (h : (32 : UInt8) ∉ l) : splitK [32] 0 k l = [l] := by
  cases k with
  | zero => rfl
  | succ k => unfold splitK; rw [index_none l h]; rfl
theorem splitK_at (k : Nat) {x : List UInt8} (h : (32 : UInt8) ∉ x) (l : List UInt8) : splitK [32] 0 (k + 1) (x ++ 32 :: l) = x :: splitK [32] 0 k l := by
  rw [splitK, index_at h]
  have hne : ¬ ((x.length : Int) == -1) = true := by rw [beq_iff_eq]; omega
  rw [if_neg hne]
  have e : ((x.length : Int)).toNat = x.length := by omega
  rw [e, Nat.add_zero, List.take_left]
  congr 2
  rw [List.length_singleton, ← List.drop_drop, List.drop_left]
  rfl
/-- Cut at so many spaces: all words, or the first ones and a rest that has a space. -/
theorem splitK_join : ∀ (ws : List (List UInt8)) (k : Nat), ws ≠ [] → (∀ x ∈ ws, (32 : UInt8) ∉ x) →
    (ws.length ≤ k + 1 → splitK [32] 0 k (join ws [32]) = ws) ∧ (k + 1 < ws.length → ∃ z, (32 : UInt8) ∈ z ∧ splitK [32] 0 k (join ws [32]) = ws.take k ++ [z])
  | [x], k, _, h => by
    rw [join_one]
    refine ⟨fun _ => splitK_none k (h x (by simp)), fun hk => ?_⟩
    simp at hk
  | x :: y :: r, k, _, h => by
    have e : join (x :: y :: r) [32] = x ++ 32 :: join (y :: r) [32] := by
      rw [join_cons, join_cons]; simp [joinTail]
    rw [e]
    cases k with
    | zero =>
      exact ⟨fun hk => absurd hk (by simp), fun _ => ⟨x ++ 32 :: join (y :: r) [32], by simp, rfl⟩⟩
    | succ k =>
      rw [splitK_at k (h x (by simp))]
      obtain ⟨i1, i2⟩ := splitK_join (y :: r) k (by simp) fun z hz => h z (by simp [hz])
      refine ⟨fun hk => by rw [i1 (by simp at hk ⊢; omega)], fun hk => ?_⟩
      obtain ⟨z, hz, hs⟩ := i2 (by simp at hk ⊢; omega)
      exact ⟨z, hz, by rw [hs]; rfl⟩
theorem splitK_wd (l : List UInt8) (k : Nat) :
    ((wd l).length ≤ k + 1 → splitK [32] 0 k l = wd l) ∧ (k + 1 < (wd l).length → ∃ z, (32 : UInt8) ∈ z ∧ splitK [32] 0 k l = (wd l).take k ++ [z]) := by
  have := splitK_join (wd l) k (wd_ne l) fun x hx => wd_free l x hx
  rw [join_wd] at this
  exact this
end Go.Proofs.YtneglkfcelpdgaaGreatDoor.Wrd
namespace Go.Proofs.YtneglkfcelpdgaaGreatDoor
open Go.RowKit

theorem free_digs {l : List UInt8} (h : Pl.digs l = true) : (32 : UInt8) ∉ l := by
  intro hm
  have := List.all_eq_true.1 h _ hm
  revert this; decide
theorem free_ddn (n : Nat) : ∀ k, (32 : UInt8) ∉ El.Elt.ddn n k
  | 0 => by simp [El.Elt.ddn]
  | k + 1 => by
    rw [El.Elt.ddn_snoc]
    intro h
    rcases List.mem_append.1 h with h | h
    · exact free_ddn (n / 10) k h
    · rw [List.mem_singleton] at h
      have := El.Elt.b10_toNat (d := n % 10) (Nat.mod_lt _ (by omega))
      rw [← h] at this
      have e : (32 : UInt8).toNat = 32 := rfl
      omega
theorem free_kw : ∀ k : Int, (32 : UInt8) ∉ kw k := by
  intro k
  unfold kw kws
  rcases (k - 1).toNat with _ | _ | _ | n <;> simp [List.getD]
theorem free_wds {k : Int} {nm : ByteArray} {t F A B C : Int} {L : List El.Elt.R} (h : Vd k nm t F A B C L) : ∀ x ∈ wds k nm t F A B L, (32 : UInt8) ∉ x := by
  intro x hx
  unfold wds at hx
  simp only [List.cons_append, List.nil_append, List.mem_cons, List.mem_append, List.mem_map] at hx
  rcases hx with rfl | rfl | rfl | hx | ⟨r, hr, rfl⟩
  · exact free_kw k
  · have h5 := h.name
    unfold nameOk at h5
    rw [Bool.and_eq_true, decide_eq_true_iff] at h5
    intro hm
    have := List.all_eq_true.1 h5.2 _ hm
    revert this; decide
  · obtain ⟨td, th, tm⟩ := dt_bd h.time
    unfold stp
    exact free_digs (by rw [digs_app, digs_app, digs_dig2 (by omega) (by omega), digs_dig2 (by omega) (by omega), digs_dig2 (by omega) (by omega)]; rfl)
  · split at hx
    · cases hx
    · rename_i hk
      rw [List.mem_singleton] at hx; subst hx
      have hp := h.place
      unfold plOk at hp
      rw [if_neg hk] at hp
      unfold nrm at hp
      obtain ⟨f, rfl, h1, h2, h3, h4, h5, h6, h7, h8⟩ := Pl.vb_to (Bool.and_eq_true_iff.1 hp).1
      unfold Pl.txt
      exact free_digs (by rw [digs_app, digs_app, (pdigs2 (n := ((((f : Nat) : Int).toNat : Nat) : Int)) (by omega) (by omega)).1, (pdigs3 (n := A) (by omega) (by omega)).1, (pdigs3 (n := B) (by omega) (by omega)).1]; rfl)
  · obtain ⟨hx, -⟩ := (vld_zero h.list).1 r hr
    have hf := El.Elt.facts hx
    unfold El.Elt.txt El.Elt.tail El.Elt.sg
    simp only [List.mem_cons, List.mem_append, not_or]
    refine ⟨fun e => ?_, ?_, free_ddn _ _⟩
    · have := hf.2.2.2.2.1
      rw [← e] at this
      have e2 : (32 : UInt8).toNat = 32 := rfl
      omega
    · split
      · decide
      · simp
theorem wds_len {k : Int} {nm : ByteArray} {t F A B C : Int} {L : List El.Elt.R} (h : Vd k nm t F A B C L) : (wds k nm t F A B L).length ≤ 15 := by
  have := vld_len h.list
  unfold wds
  rw [List.length_append, List.length_append, List.length_map]
  split <;> simp <;> omega
theorem gtx_len {k : Int} {nm : ByteArray} {t F A B C : Int} {L : List El.Elt.R} (h : Vd k nm t F A B C L) : 14 ≤ (gtx k nm t F A B L).length := by
  have h5 := h.name
  unfold nameOk at h5
  rw [Bool.and_eq_true, decide_eq_true_iff] at h5
  have h6 : nm.data.toList.length = nm.size := by simp
  have h7 : (kw k).length = 4 := by rcases kind_cases h.kind with rfl | rfl | rfl <;> rfl
  have h8 : (stp t).length = 6 := by unfold stp; simp [dig2_len]
  unfold gtx wds
  rw [List.append_assoc, List.cons_append, List.cons_append, List.cons_append, List.nil_append, Lib.join_cons]
  simp only [Lib.joinTail, List.map_cons, List.flatten_cons, List.length_append, List.length_cons, List.length_nil]
  omega
theorem gtx_short {k : Int} {nm : ByteArray} {t F A B C : Int} {L : List El.Elt.R} (h : Vd k nm t F A B C L) : (gtx k nm t F A B L).length ≤ 2000 := by
  have := join_len (wds k nm t F A B L) 15 100 (wds_len h) (wds_short h)
  unfold gtx; omega
theorem map_S : ∀ {l : List ByteArray} {ws : List (List UInt8)}, l.map (·.data.toList) = ws → l = ws.map S := by
  intro l ws h
  rw [← h, List.map_map]
  exact ((List.map_congr_left fun x _ => S_of x).trans (List.map_id _)).symm
theorem split_yes (ws : List (List UInt8)) (w : World) (hne : ws ≠ []) (hf : ∀ x ∈ ws, (32 : UInt8) ∉ x) (hl : ws.length ≤ 15) (h14 : 14 ≤ (Lib.join ws [32]).length) (h2 : (Lib.join ws [32]).length ≤ 2000) (hE : Env w) :
    Calls Tryz.prog 62 #[.string (S (Lib.join ws [32])), .string ⟨#[32]⟩, .int .i64 15] w fun e w' => e = .returned (.slice (some ⟨w.heap.size, 0, none⟩) ws.length 15) ∧ WIn w' (.slice (some ⟨w.heap.size, 0, none⟩) ws.length 15) ws ∧ Below w.heap.size w w' := by
  obtain ⟨m, hm⟩ := hE.ml
  have hsz : (S (Lib.join ws [32])).size = (Lib.join ws [32]).length := S_size _
  have hs := Tryz.strings_SplitN (S (Lib.join ws [32])) ⟨#[32]⟩ 15 m w (by rw [hsz]; omega) hm (by decide) (by decide) (by decide)
  have hN : min 15 ((S (Lib.join ws [32])).size + 1) = 15 := by rw [hsz]; omega
  have hp : Lib.splitB ⟨#[32]⟩ 0 14 (S (Lib.join ws [32])) = ws.map S := by
    refine map_S ?_
    rw [Lib.splitB_data, S_list]
    exact (Wrd.splitK_join ws 14 hne hf).1 (by omega)
  rw [hN, show 15 - 1 = 14 from rfl, hp, List.length_map] at hs
  refine hs.mono fun e w' ⟨he, hw⟩ => ⟨he, ?_, ?_⟩
  · subst hw
    refine ⟨_, 15, rfl, hl, by omega, fun i hi => ⟨w.heap.size, 0, rfl, by simp, ?_⟩⟩
    have hb := heap_alloc_new w (.cells (Lib.cellsOf (ws.map S) 15) 9)
    unfold World.cell?
    rw [hb]
    have hc : (Lib.cellsOf (ws.map S) 15)[0 + i]? = some (.string (S ws[i])) := by
      unfold Lib.cellsOf
      rw [Nat.zero_add, List.getElem?_toArray, List.getElem?_append_left (by simpa using hi), List.getElem?_map, List.getElem?_map, List.getElem?_eq_getElem hi]
      rfl
    simpa using hc
  · subst hw
    exact (Below.refl _ _).alloc (Nat.le_refl _) _
theorem rdIn_set {w : World} {g : Nat} {A : Option Addr} {n c : Nat} {L : List El.Elt.R} (h : El.RdIn w (.slice A n c) L) (hn : ∀ i, (Value.slice A n c).ownBlock = some i → i ≠ g) (u0 u1 u2 u3 u4 u5 u6 u7 : Value) :
    El.RdIn ((((((((w.setCell ⟨g, 0, none⟩ u0).setCell ⟨g, 1, none⟩ u1).setCell ⟨g, 2, none⟩ u2).setCell ⟨g, 3, none⟩ u3).setCell ⟨g, 4, none⟩ u4).setCell ⟨g, 5, none⟩ u5).setCell ⟨g, 6, none⟩ u6).setCell ⟨g, 7, none⟩ u7) (.slice A n c) L := by
  obtain ⟨A', c', e, h1, h2, h3⟩ := h
  obtain ⟨rfl, rfl, rfl⟩ : A = A' ∧ n = L.length ∧ c = c' := by injection e with e1 e2 e3; exact ⟨e1, e2, e3⟩
  refine ⟨A, c, rfl, h1, h2, fun i hi => ?_⟩
  obtain ⟨b, off, rfl, hb, c0, c1⟩ := h3 i hi
  have hne : b ≠ g := hn b rfl
  refine ⟨b, off, rfl, ?_, ?_, ?_⟩
  · exact Nat.lt_of_lt_of_le hb (set8_below (u0 := u0) (u1 := u1) (u2 := u2) (u3 := u3) (u4 := u4) (u5 := u5) (u6 := u6) (u7 := u7) (Below.refl 0 w) (Nat.zero_le g)).size
  · rw [set8_cell (p := ⟨b, off + i * 2, none⟩) hne]; exact c0
  · rw [set8_cell (p := ⟨b, off + i * 2 + 1, none⟩) hne]; exact c1
set_option maxRecDepth 100000 in
set_option maxHeartbeats 1000000 in
theorem parse_yes (k : Int) (nm : ByteArray) (t F A B C : Int) (L : List El.Elt.R) (near a : Int) (w : World) (hE : Env w) (hV : Vd k nm t F A B C L) (hn : 0 ≤ near ∧ near ≤ 52595999) (hr : rsv (dayOf t) (hourOf t) (minOf t) near = some a) :
    Calls Tryz.prog 23 #[.string (S (gtx k nm t F A B L)), .int .i64 near] w fun e w' => ∃ u, e = .returned (.tuple #[repV k nm a F A B C u, .int .i64 0]) ∧ El.RdIn w' u L ∧ Below w.heap.size w w' := by
  have HSp := Lib.hid (fun w hE => split_yes (wds k nm t F A B L) w (by unfold wds; simp) (free_wds hV) (wds_len hV) (gtx_len hV) (gtx_short hV) hE)
  have HRd := Lib.hid (fun g off cap w hE h4 hW => read_yes k nm t F A B C L near a g off cap w hE hV hr h4 hW)
  have hVa : Vd k nm a F A B C L := ⟨hV.kind, hV.name, (rsv_own hr).1, hV.place, hV.list⟩
  have HC := Lib.hid hVa.code
  have hg : gtx k nm t F A B L = Lib.join (wds k nm t F A B L) [32] := rfl
  rw [hg]
  obtain ⟨n0, n1⟩ := hn
  generalize S (Lib.join (wds k nm t F A B L) [32]) = s at *
  generalize wds k nm t F A B L = ws at *
  clear hV hVa hr hg
  have b4 := (Below.refl w.heap.size w).alloc (Nat.le_refl _) (.cells (repC 0 ⟨#[]⟩ 0 0 0 0 0 (.slice none 0 0)) 26)
  have r4 := Row.new w (repC 0 ⟨#[]⟩ 0 0 0 0 0 (.slice none 0 0)) 26
  have hE4 := hE.under b4
  go_enter Tryz.func23, Tryz.ntmps23
  go_wp2_with fail
  generalize w.alloc (.cells (repC 0 ⟨#[]⟩ 0 0 0 0 0 (.slice none 0 0)) 26) = W0 at *
  refine (HSp.out _ hE4).mono ?_
  rintro e w1 ⟨rfl, hw1, g1⟩
  have b5 := b4.trans (g1.mono b4.size)
  have r5 := r4.under g1
  have hE5 := hE4.under g1
  clear g1 b4 r4 hE4
  go_wp2_with fail
  refine (HRd.out _ _ _ _ hE5 (by decide) hw1).mono ?_
  rintro e w2 ⟨u, rfl, hR2, hO, g2⟩
  have b6 := b5.trans (g2.mono b5.size)
  have r6 := r5.under g2
  have hE6 := hE5.under g2
  have hO' : ∀ i, u.ownBlock = some i → i ≠ w.heap.size := fun i e => Nat.ne_of_gt (Nat.lt_of_lt_of_le r5.lt (hO i e))
  obtain ⟨Au, cu, rfl, -⟩ := id hR2
  have bx := (Below.refl w2.heap.size w2).alloc (Nat.le_refl _) (.cells (repC k nm a F A B C (.slice Au L.length cu)) 26)
  have rx := Row.new w2 (repC k nm a F A B C (.slice Au L.length cu)) 26
  have b7 := b6.trans (bx.mono b6.size)
  have r7 := r6.under bx
  have hE7 := hE6.under bx
  have hR7 := hR2.under bx
  have HO := Lib.hid hO'
  clear hO hO' b5 r5 hE5 g2 b6 r6 hE6 hR2 bx HRd HSp hw1
  go_upto_region 4 with fail
  generalize w2.alloc (.cells (repC k nm a F A B C (.slice Au L.length cu)) 26) = W7 at *
  generalize w2.heap.size = gx at *
  obtain ⟨p0, p1, p2, p3, p4, p5, p6, p7⟩ := row8 rx
  go_wp2_with fail
  refine (validate_is k nm a F A B C _ L 0 _ hR7 hE7.tab HC.out).mono ?_
  rintro e w8 ⟨rfl, g8⟩
  have b8 := b7.trans (g8.mono b7.size)
  have r8 := r7.under g8
  have hR8 := hR7.under g8
  have rx8 := rx.under g8
  clear p0 p1 p2 p3 p4 p5 p6 p7 b7 r7 hR7 rx g8 hE7
  obtain ⟨p0, p1, p2, p3, p4, p5, p6, p7⟩ := row8 rx8
  have f0 := r8.thaw 0
  have f1 := r8.thaw 1
  have f2 := r8.thaw 2
  have f3 := r8.thaw 3
  have f4 := r8.thaw 4
  have f5 := r8.thaw 5
  have f6 := r8.thaw 6
  have f7 := r8.thaw 7
  obtain ⟨q0, q1, q2, q3, q4, q5, q6, q7⟩ := row8 r8
  have HZ := Lib.hid (set8_row (.int .i64 k) (.string nm) (.int .i64 a) (.int .i64 F) (.int .i64 A) (.int .i64 B) (.int .i64 C) (.slice Au L.length cu) r8)
  have HF := Lib.hid (set8_below (u0 := .int .i64 k) (u1 := .string nm) (u2 := .int .i64 a) (u3 := .int .i64 F) (u4 := .int .i64 A) (u5 := .int .i64 B) (u6 := .int .i64 C) (u7 := .slice Au L.length cu) b8 (Nat.le_refl _))
  have HR8 := Lib.hid hR8
  clear r8 b8 rx8 hR8
  go_wp2_with fail
  clear f0 f1 f2 f3 f4 f5 f6 f7 q0 q1 q2 q3 q4 q5 q6 q7 p0 p1 p2 p3 p4 p5 p6 p7
  exact bodyPost_ret (v := .tuple #[repV k nm a F A B C (.slice Au L.length cu), .int .i64 0]) (by obtain ⟨z0, z1, z2, z3, z4, z5, z6, z7⟩ := row8 HZ.out; simp [results, Tryz.results23, z0, z1, z2, z3, z4, z5, z6, z7, go_sem]) rfl ⟨_, rfl, rdIn_set HR8.out HO.out _ _ _ _ _ _ _ _, HF.out⟩
end Go.Proofs.YtneglkfcelpdgaaGreatDoor
namespace Go.Proofs.YtneglkfcelpdgaaGreatDoor
open Go.RowKit

def exN : Int := 14136080
def exD : ByteArray := ⟨#[50, 48, 50, 54, 45, 49, 49, 45, 49, 54, 32, 49, 55, 58, 50, 48]⟩
def exB : List UInt8 := [83, 72, 73, 80, 32, 68, 69, 76, 84, 65, 32, 49, 54, 49, 55, 50, 48, 32, 48, 53, 52, 50, 48, 52, 50, 48, 32, 80, 49, 48, 49, 51, 50, 32, 69, 45, 48, 48, 53, 55]
def exNm : ByteArray := ⟨#[68, 69, 76, 84, 65]⟩
def exL : List El.Elt.R := [(1, 10132), (4, -57)]
theorem exD_fld : Ck.rfld exD 0 4 = 2026 ∧ Ck.rfld exD 5 7 = 11 ∧ Ck.rfld exD 8 10 = 16 ∧ Ck.rfld exD 11 13 = 17 ∧ Ck.rfld exD 14 16 = 20 := by decide +kernel
theorem exD_seps : Ck.seps exD (by decide) := by unfold Ck.seps; decide +kernel
theorem exParse (w : World) :
    Calls Tryz.prog 25 #[.string ⟨#[50, 48, 50, 54, 45, 49, 49, 45, 49, 54, 32, 49, 55, 58, 50, 48]⟩] w fun e w' => e = .returned (.tuple #[.int .i64 exN, .int .i64 0]) ∧ Below w.heap.size w w' := by
  obtain ⟨e1, e2, e3, e4, e5⟩ := exD_fld
  have h := Ck.refParse_yes exD w (by decide) exD_seps (by rw [e1, e2, e3, e4, e5]; decide)
  rw [e1, e2, e3, e4, e5, show Ck.Cal.num 2026 11 16 17 20 = exN by decide] at h
  exact h
theorem dt_is {t y m d h i : Int} (hd : Dt t y m d h i) : dayOf t = d ∧ hourOf t = h ∧ minOf t = i := by
  have hb := Ck.Cal.num_bd hd.1
  rw [hd.2] at hb
  obtain ⟨y', m', hv, hn⟩ := dt_of hb
  have := Ck.Cal.num_inj hv hd.1 (hn.trans hd.2.symm)
  exact ⟨this.2.2.1, this.2.2.2.1, this.2.2.2.2⟩
theorem exDt : dayOf exN = 16 ∧ hourOf exN = 17 ∧ minOf exN = 20 := dt_is (y := 2026) (m := 11) ⟨by decide, by decide⟩
theorem exV : Vd 2 exNm exN 5 420 420 0 exL := by
  refine ⟨by omega, by decide +kernel, by unfold exN; omega, by decide +kernel, ?_⟩
  refine (El.Elt.vld_good (L := exL) (by decide +kernel)).1 ?_
  intro j hj
  have hl : exL.length = 2 := rfl
  obtain rfl : j = 0 := by omega
  show (1 : Int) < 4
  decide
theorem exTxt : gtx 2 exNm exN 5 420 420 exL = exB := by
  have hs : stp exN = [49, 54, 49, 55, 50, 48] := by
    unfold stp
    obtain ⟨e1, e2, e3⟩ := exDt
    rw [e1, e2, e3]; decide +kernel
  unfold gtx wds
  rw [hs]
  decide +kernel
theorem exRsv : rsv (dayOf exN) (hourOf exN) (minOf exN) exN = some exN := rdb_near exV.time exV.time (by omega) (by omega)
theorem ex_same : ((S exB).toList == [83, 72, 73, 80, 32, 68, 69, 76, 84, 65, 32, 49, 54, 49, 55, 50, 48, 32, 48, 53, 52, 50, 48, 52, 50, 48, 32, 80, 49, 48, 49, 51, 50, 32, 69, 45, 48, 48, 53, 55]) = true := by rw [ByteArray.toList_eq]; rfl
attribute [local go_sem] Pl.eq_place
set_option maxRecDepth 100000 in
set_option maxHeartbeats 400000 in
theorem awake_any (w : World) (hE : Env w) :
    Calls Tryz.prog 6 #[] w fun e w' => e = .returned (.bool true) ∧ Below w.heap.size w w' := by
  have HP := Lib.hid (fun w hE => parse_yes 2 exNm exN 5 420 420 0 exL exN exN w hE exV exV.time exRsv)
  have HF := Lib.hid (fun u w hL hE => format_yes 2 exNm exN 5 420 420 0 u exL w hL hE exV)
  rw [exTxt] at HP HF
  have HQ : Hid (∀ w, Env w → Calls Tryz.prog 23 #[.string ⟨#[83, 72, 73, 80, 32, 68, 69, 76, 84, 65, 32, 49, 54, 49, 55, 50, 48, 32, 48, 53, 52, 50, 48, 52, 50, 48, 32, 80, 49, 48, 49, 51, 50, 32, 69, 45, 48, 48, 53, 55]⟩, .int .i64 exN] w fun e w' => ∃ u, e = .returned (.tuple #[repV 2 exNm exN 5 420 420 0 u, .int .i64 0]) ∧ El.RdIn w' u exL ∧ Below w.heap.size w w') := HP
  clear HP
  have x1 := ex_same
  have hl := Lib.hid (show exL.length = 2 from rfl)
  have HD := Lib.hid exParse
  generalize exN = n at *
  generalize exNm = nm at *
  generalize S exB = sb at *
  generalize exL = L at *
  go_enter Tryz.func6, Tryz.ntmps6
  go_wp2_with fail
  refine (HD.out _).mono ?_
  rintro e w1 ⟨rfl, g1⟩
  have hE1 := hE.under g1
  go_wp2_with fail
  refine (HQ.out _ hE1).mono ?_
  rintro e w2 ⟨u, rfl, hR, g2⟩
  obtain ⟨Au, cu, rfl, -⟩ := id hR
  have b2 := g1.trans (g2.mono g1.size)
  have b3 := b2.alloc b2.size (.cells (repC 2 nm n 5 420 420 0 (.slice Au L.length cu)) 26)
  have r3 := Row.new w2 (repC 2 nm n 5 420 420 0 (.slice Au L.length cu)) 26
  have hE3 := hE.under b3
  have hR3 := hR.under ((Below.refl _ _).alloc (Nat.le_refl _) (.cells (repC 2 nm n 5 420 420 0 (.slice Au L.length cu)) 26))
  clear hE hE1 g1 g2 hR HQ b2
  go_upto_region 3 with fail
  generalize w2.alloc (.cells (repC 2 nm n 5 420 420 0 (.slice Au L.length cu)) 26) = W3 at *
  generalize w2.heap.size = g3 at *
  obtain ⟨d0, d1, d2, d3, d4, d5, d6, d7⟩ := row8 r3
  go_wp2_with fail
  clear d0 d1 d2 d3 d4 d5 d6 d7
  refine (HF.out _ _ hR3 hE3).mono ?_
  rintro e w4 ⟨rfl, g4⟩
  have b4 := b3.trans (g4.mono b3.size)
  obtain ⟨c0, c1, c2, c3, c4, c5, c6, c7⟩ := row8 (r3.under g4)
  have q : ((L.length : Int) == 2) = true := by rw [hl.out]; rfl
  clear HF hR3 hE3 b3 g4 r3 hl
  go_wp2_with fail
  go_ret
  exact ⟨rfl, b4⟩
theorem awake_from {w0 : World} (X : World) (hE : Env X) (hb : Below w0.heap.size w0 X) :
    Calls Tryz.prog 6 #[] X fun e w' => e = .returned (.bool true) ∧ Below w0.heap.size w0 w' :=
  (awake_any X hE).mono fun _ _ ⟨he, hg⟩ => ⟨he, hb.trans (hg.mono hb.size)⟩
end Go.Proofs.YtneglkfcelpdgaaGreatDoor
