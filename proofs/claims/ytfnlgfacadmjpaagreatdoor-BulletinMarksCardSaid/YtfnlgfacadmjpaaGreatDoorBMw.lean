/- What BulletinMarks reads: headings with any last word. The walk of BulletinMarks. -/
import Derived.Test.YtfnlgfacadmjpaaGreatDoorBMa
namespace Go.Proofs.YtfnlgfacadmjpaaGreatDoor.Bu
open Go.RowKit

theorem vdE {k d : Int} (h1 : 0 ≤ k ∧ k ≤ 26) (h2 : 0 ≤ d ∧ d ≤ 26) (h : k = 0 ∨ d = 0) : VdB (S exC) 14000000 k d [] :=
  ⟨by decide +kernel, by omega, h1, h2, h, by decide, fun r hr => absurd hr List.not_mem_nil⟩
theorem rdbE : Rdb 14000000 14000000 := rdb_near (by omega) (by omega) (by omega) (by omega)
theorem lns_short : ∀ (l : List UInt8), (lns l).length ≤ l.length
  | [] => Nat.le_refl _
  | c :: r => by
    have ih := lns_short r
    simp only [lns, List.length_cons]
    split
    · simp only [List.length_cons]; omega
    · split
      · simp
      · rename_i l ls e
        rw [e] at ih
        simp only [List.length_cons] at ih ⊢; omega
noncomputable def H0 : List UInt8 := hdT exC 14000000 0 0
theorem H0_is : H0 = sy ++ 32 :: (exC ++ 32 :: stp 14000000) := by
  unfold H0 hdT hdW mk
  simp [Lib.join]
theorem odd_hws (f s t : UInt8) : hws (H0 ++ [32, f, s, t]) = [sy, exC, stp 14000000, [f, s, t]] := by
  have hV := vdE (k := 0) (d := 0) (by omega) (by omega) (.inl rfl)
  have hf := hdW_free hV.hctr hV.htime hV.hcor hV.hdel
  have e : H0 ++ [32, f, s, t] = sy ++ 32 :: (exC ++ 32 :: (stp 14000000 ++ 32 :: [f, s, t])) := by rw [H0_is]; simp
  rw [e]
  unfold hws
  rw [Wrd.splitK_at _ (hf sy (by simp [hdW])).1, Wrd.splitK_at _ (hf exC (by simp [hdW])).1, Wrd.splitK_at _ (hf (stp 14000000) (by simp [hdW])).1, Wrd.splitK_zero]
def good (f s t : UInt8) : Prop := (65 ≤ t.toNat ∧ t.toNat ≤ 90) ∧ ((f = 67 ∧ s = 67) ∨ (f = 82 ∧ s = 82))
theorem u8_beq (f a : UInt8) : (((f.toNat : Int) == (a.toNat : Int)) = true) ↔ f = a := by
  rw [beq_iff_eq]
  exact ⟨fun h => UInt8.toNat_inj.1 (by omega), fun h => by rw [h]⟩
theorem good_iff (f s t : UInt8) : good f s t ↔ ((65 : Int) ≤ (t.toNat : Int) ∧ (t.toNat : Int) ≤ 90) ∧ ((((f.toNat : Int) == 67) = true ∧ ((s.toNat : Int) == 67) = true) ∨ (((f.toNat : Int) == 82) = true ∧ ((s.toNat : Int) == 82) = true)) := by
  have h67 := fun x => u8_beq x 67
  have h82 := fun x => u8_beq x 82
  rw [show ((67 : UInt8).toNat : Int) = 67 from rfl] at h67
  rw [show ((82 : UInt8).toNat : Int) = 82 from rfl] at h82
  rw [h67, h67, h82, h82]
  unfold good
  constructor
  · rintro ⟨h, k⟩; exact ⟨by omega, k⟩
  · rintro ⟨h, k⟩; exact ⟨by omega, k⟩
theorem ne_ten {f : UInt8} (h : ((f.toNat : Int) == 10) = false) : f ≠ 10 := fun e => by
  rw [beq_eq_false_iff_ne] at h
  exact h (by rw [e]; rfl)
theorem cnt_three (a f s t : UInt8) : cnt [a, a] [f, s, t] = if f = a ∧ s = a then lno t else 0 := by
  unfold cnt
  by_cases h : f = a ∧ s = a
  · obtain ⟨rfl, rfl⟩ := h
    simp [Lib.hasPrefix]
  · rw [if_neg h, if_neg]
    intro q
    simp [Lib.hasPrefix] at q
    exact h ⟨q.1.symm, q.2.symm⟩
theorem odd_good (f s t : UInt8) : (∃ c t' cor del, Hdr (hws (H0 ++ [32, f, s, t])) 14000000 c t' cor del) ↔ good f s t := by
  rw [odd_hws]
  have hl : lno t = 0 ↔ ¬ (65 ≤ t.toNat ∧ t.toNat ≤ 90) := by
    unfold lno isCap
    simp
    omega
  constructor
  · rintro ⟨c, t', cor, del, st, rest, e, -, -, h⟩
    injection e with e1 e
    injection e with e2 e
    injection e with e3 e
    subst e
    rcases h with ⟨h, -⟩ | ⟨x, h, hc, hd, hn⟩
    · exact absurd h (by simp)
    · injection h with h
      subst h
      rw [cnt_three] at hc hd
      unfold good
      by_cases g1 : f = 67 ∧ s = 67
      · by_cases g3 : 65 ≤ t.toNat ∧ t.toNat ≤ 90
        · exact ⟨g3, .inl g1⟩
        · rw [if_pos g1, hl.2 g3] at hc
          rw [if_neg (fun q => absurd (g1.1.symm.trans q.1) (by decide))] at hd
          exact absurd ⟨hc, hd⟩ hn
      · rw [if_neg g1] at hc
        by_cases g2 : f = 82 ∧ s = 82
        · by_cases g3 : 65 ≤ t.toNat ∧ t.toNat ≤ 90
          · exact ⟨g3, .inr g2⟩
          · rw [if_pos g2, hl.2 g3] at hd
            exact absurd ⟨hc, hd⟩ hn
        · rw [if_neg g2] at hd
          exact absurd ⟨hc, hd⟩ hn
  · rintro ⟨g3, g⟩
    have hV := vdE (k := 0) (d := 0) (by omega) (by omega) (.inl rfl)
    have hn0 : lno t ≠ 0 := fun e => (hl.1 e) g3
    obtain ⟨td, th, tm⟩ := dt_bd (t := 14000000) (by omega)
    have hst : Stm (stp 14000000) 14000000 14000000 := ⟨dayOf 14000000, hourOf 14000000, minOf 14000000, ⟨by omega, by omega⟩, ⟨by omega, by omega⟩, ⟨by omega, by omega⟩, rfl, rdbE⟩
    refine ⟨exC, 14000000, cnt [67, 67] [f, s, t], cnt [82, 82] [f, s, t], stp 14000000, [[f, s, t]], rfl, hV.hctr, hst, .inr ⟨[f, s, t], rfl, rfl, rfl, ?_⟩⟩
    rw [cnt_three, cnt_three]
    rintro ⟨h1, h2⟩
    rcases g with g | g
    · rw [if_pos g] at h1; exact hn0 h1
    · rw [if_pos g] at h2; exact hn0 h2
theorem odd_parse (f s t : UInt8) (w : World) (hE : Env w) :
    Calls Tryz.prog 22 #[.string (S (H0 ++ [32, f, s, t, 10])), .int .i64 14000000] w fun e w' => ∃ (cb : ByteArray) (tt cor del : Int) (A : Option Addr) (n c : Nat) (B : Option Addr) (m d : Nat) (j : Int), e = .returned (.tuple #[bulV cb tt cor del (.slice A n c), .slice B m d, .int .i64 j]) ∧ Below w.heap.size w w' ∧ (f ≠ 10 → s ≠ 10 → t ≠ 10 → (j = 0 ↔ good f s t)) := by
  have hV := vdE (k := 0) (d := 0) (by omega) (by omega) (.inl rfl)
  have hh := hdT_len hV.hctr hV.htime hV.hcor hV.hdel hV.hone
  have hf := hdT_fr10 hV.hctr hV.htime hV.hcor hV.hdel
  have key : ∀ hd body, H0 ++ [32, f, s, t, 10] = hd ++ 10 :: body → (∀ b ∈ hd, b ≠ 10) → hd.length ≤ 40 ∧ body.length ≤ 10 → (f ≠ 10 → s ≠ 10 → t ≠ 10 → hd = H0 ++ [32, f, s, t]) → Calls Tryz.prog 22 #[.string (S (H0 ++ [32, f, s, t, 10])), .int .i64 14000000] w fun e w' => ∃ (cb : ByteArray) (tt cor del : Int) (A : Option Addr) (n c : Nat) (B : Option Addr) (m d : Nat) (j : Int), e = .returned (.tuple #[bulV cb tt cor del (.slice A n c), .slice B m d, .int .i64 j]) ∧ Below w.heap.size w w' ∧ (f ≠ 10 → s ≠ 10 → t ≠ 10 → (j = 0 ↔ good f s t)) := by
    intro hd body e h1 h2 h3
    rw [e]
    have hls := lns_short body
    refine (parse_text hd body 14000000 w hE (by omega) h1 (by omega) (by omega)).mono ?_
    rintro e w' (⟨c', t', cor', del', R', vr, vd, hH', hk, rfl, o1, o2, hrd, hg⟩ | ⟨hno, rfl, hg⟩)
    · obtain ⟨A, ca, rfl⟩ := row_form o1
      obtain ⟨B, d, rfl⟩ := row_form o2
      refine ⟨_, _, _, _, A, _, ca, B, _, d, 0, rfl, hg, fun a1 a2 a3 => ⟨fun _ => ?_, fun _ => rfl⟩⟩
      have := h3 a1 a2 a3
      subst this
      exact (odd_good f s t).1 ⟨_, _, _, _, hH'⟩
    · refine ⟨_, _, _, _, none, 0, 0, none, 0, 0, 3, rfl, hg, fun a1 a2 a3 => ⟨fun q => absurd q (by decide), fun q => ?_⟩⟩
      have := h3 a1 a2 a3
      subst this
      obtain ⟨c, t', cor, del, hq⟩ := (odd_good f s t).2 q
      exact absurd hq (hno _ _ _ _)
  have hH0 : H0 = hdT exC 14000000 0 0 := rfl
  rw [← hH0] at hh hf
  by_cases a1 : f = 10
  · refine key (H0 ++ [32]) [s, t, 10] (by rw [a1]; simp) ?_ ⟨by simp; omega, by simp⟩ (fun q => absurd a1 q)
    intro b hb; rcases List.mem_append.1 hb with q | q
    · exact hf b q
    · rw [List.mem_singleton.1 q]; decide
  · by_cases a2 : s = 10
    · refine key (H0 ++ [32, f]) [t, 10] (by rw [a2]; simp) ?_ ⟨by simp; omega, by simp⟩ (fun _ q => absurd a2 q)
      intro b hb; rcases List.mem_append.1 hb with q | q
      · exact hf b q
      · simp only [List.mem_cons, List.not_mem_nil, or_false] at q
        rcases q with rfl | rfl
        · decide
        · exact a1
    · by_cases a3 : t = 10
      · refine key (H0 ++ [32, f, s]) [10] (by rw [a3]; simp) ?_ ⟨by simp; omega, by simp⟩ (fun _ _ q => absurd a3 q)
        intro b hb; rcases List.mem_append.1 hb with q | q
        · exact hf b q
        · simp only [List.mem_cons, List.not_mem_nil, or_false] at q
          rcases q with rfl | rfl | rfl
          · decide
          · exact a1
          · exact a2
      · refine key (H0 ++ [32, f, s, t]) [] (by simp) ?_ ⟨by simp; omega, by simp⟩ (fun _ _ _ => rfl)
        intro b hb; rcases List.mem_append.1 hb with q | q
        · exact hf b q
        · simp only [List.mem_cons, List.not_mem_nil, or_false] at q
          rcases q with rfl | rfl | rfl | rfl
          · decide
          · exact a1
          · exact a2
          · exact a3
abbrev eZ : ByteArray := ⟨#[69, 68, 90, 87]⟩
theorem rps0 (W : World) (A : Option Addr) {c : Nat} (hc : c ≤ 9223372036854775807) : RpsIn W (.slice A 0 c) [] := ⟨A, c, rfl, Nat.zero_le _, hc, fun _ hi => absurd hi (Nat.not_lt_zero _)⟩
theorem fmtE {k d : Int} (h1 : 0 ≤ k ∧ k ≤ 26) (h2 : 0 ≤ d ∧ d ≤ 26) (h : k = 0 ∨ d = 0) (w : World) (hE : Env w) :
    Calls Tryz.prog 15 #[.agg #[.string eZ, .int .i64 14000000, .int .i64 k, .int .i64 d, .slice none 0 0]] w fun e w' => e = .returned (.tuple #[.string (S (hdT exC 14000000 k d ++ [10])), .int .i64 0]) ∧ Below w.heap.size w w' :=
  format_bul exC 14000000 k d (.slice none 0 0) [] w hE (rps0 w none (by omega)) (vdE h1 h2 h) (by decide)
theorem parseE {k d : Int} (h1 : 0 ≤ k ∧ k ≤ 26) (h2 : 0 ≤ d ∧ d ≤ 26) (h : k = 0 ∨ d = 0) (w : World) (hE : Env w) :
    Calls Tryz.prog 22 #[.string (S (hdT exC 14000000 k d ++ [10])), .int .i64 14000000] w fun e w' => ∃ (A : Option Addr) (c : Nat) (B : Option Addr) (q : Nat), e = .returned (.tuple #[bulV eZ 14000000 k d (.slice A 0 c), .slice B 0 q, .int .i64 0]) ∧ c ≤ 9223372036854775807 ∧ Below w.heap.size w w' := by
  have h := parse_back exC 14000000 k d [] 14000000 w hE (vdE h1 h2 h) (by omega) rdbE (by decide)
  refine Calls.mono h ?_
  rintro e w' ⟨R', vr, B, q, hk, rfl, hR, hb⟩
  obtain rfl : R' = [] := by cases R' with | nil => rfl | cons a b => exact absurd hk (by simp)
  obtain ⟨A, c, rfl, -, hc, -⟩ := hR
  exact ⟨A, c, B, q, rfl, hc, hb⟩
theorem sameE (k d : Int) (A : Option Addr) {c : Nat} (hc : c ≤ 9223372036854775807) (w : World) :
    Calls Tryz.prog 20 #[bulV eZ 14000000 k d (.slice A 0 c), bulV eZ 14000000 k d (.slice none 0 0)] w fun e w' => e = .returned (.bool true) ∧ Below w.heap.size w w' :=
  same6_yes eZ 14000000 k d _ _ [] [] w (rps0 w A hc) (rps0 w none (by omega)) rfl
theorem conv_three (f s t : UInt8) (w : World) (g : Nat) (h : Row w g 5 #[.int .u8 (f.toNat : Int), .int .u8 (s.toNat : Int), .int .u8 (t.toNat : Int)]) : (convert 40 9 (.slice (some ⟨g, 0, none⟩) 3 3)).run Tryz.prog w = .ok (.string (S [f, s, t])) w :=
  run_convert_bytes_back w 40 9 5 ⟨g, 0, none⟩ 3 [f, s, t] (by kernel_rfl) (by kernel_rfl) (by kernel_rfl) (fun j hj => by
    have hj : j < 3 := hj
    rw [Addr.add_lit, h.cell]
    rcases (by omega : j = 0 ∨ j = 1 ∨ j = 2) with rfl | rfl | rfl <;> rfl)
/-- Boxes of bulletins, apart from each other. -/
structure Al (w : World) (L : List (Nat × Array Value)) (Y : World) : Prop where
  low : Below w.heap.size w Y
  row : ∀ p ∈ L, Row Y p.1 24 p.2 ∧ w.heap.size ≤ p.1
  sep : (L.map Prod.fst).Nodup
section
variable {w Y Y' : World} {L L' : List (Nat × Array Value)}
theorem Al.alloc (h : Al w L Y) (cs : Array Value) : Al w ((Y.heap.size, cs) :: L) (Y.alloc (.cells cs 24)) := by
  refine ⟨h.low.alloc h.low.size _, fun p hp => ?_, ?_⟩
  · rcases List.mem_cons.1 hp with rfl | q
    · exact ⟨Row.new _ _ _, h.low.size⟩
    · exact ⟨(h.row p q).1.under ((Below.refl _ _).alloc (Nat.le_refl _) _), (h.row p q).2⟩
  · rw [List.map_cons, List.nodup_cons]
    refine ⟨fun q => ?_, h.sep⟩
    obtain ⟨p, hp, e⟩ := List.mem_map.1 q
    have := (h.row p hp).1.lt
    simp only at e
    omega
theorem Al.under (h : Al w L Y) (hb : Below Y.heap.size Y Y') : Al w L Y' := ⟨h.low.trans (hb.mono h.low.size), fun p hp => ⟨(h.row p hp).1.under hb, (h.row p hp).2⟩, h.sep⟩
theorem Al.tail {p : Nat × Array Value} (h : Al w (p :: L) Y) : Al w L Y := ⟨h.low, fun q hq => h.row q (List.mem_cons_of_mem _ hq), (List.nodup_cons.1 (by rw [← List.map_cons]; exact h.sep)).2⟩
theorem Al.perm (h : Al w L Y) (p : L.Perm L') : Al w L' Y := ⟨h.low, fun q hq => h.row q (p.mem_iff.2 hq), (p.map Prod.fst).nodup_iff.1 h.sep⟩
theorem Al.put {g : Nat} {cs : Array Value} (h : Al w ((g, cs) :: L) Y) (j : Nat) (u : Value) : Al w ((g, cs.setIfInBounds j u) :: L) (Y.setCell ⟨g, j, none⟩ u) := by
  have hs := h.sep
  rw [List.map_cons, List.nodup_cons] at hs
  refine ⟨h.low.setCell (p := ⟨g, j, none⟩) (h.row (g, cs) (by simp)).2 u, fun p hp => ?_, h.sep⟩
  rcases List.mem_cons.1 hp with rfl | q
  · exact ⟨(h.row (g, cs) (by simp)).1.put j u, (h.row (g, cs) (by simp)).2⟩
  · exact ⟨(h.row p (List.mem_cons_of_mem _ q)).1.far (p := ⟨g, j, none⟩) (fun e => hs.1 (List.mem_map.2 ⟨p, q, e.symm⟩)) u, (h.row p (List.mem_cons_of_mem _ q)).2⟩
theorem Al.fill {g : Nat} {y0 y1 y2 y3 y4 : Value} (h : Al w ((g, #[y0, y1, y2, y3, y4]) :: L) Y) (u0 u1 u2 u3 u4 : Value) : Al w ((g, #[u0, u1, u2, u3, u4]) :: L) (((((Y.setCell ⟨g, 0, none⟩ u0).setCell ⟨g, 1, none⟩ u1).setCell ⟨g, 2, none⟩ u2).setCell ⟨g, 3, none⟩ u3).setCell ⟨g, 4, none⟩ u4) :=
  ((((h.put 0 u0).put 1 u1).put 2 u2).put 3 u3).put 4 u4
end
end Go.Proofs.YtfnlgfacadmjpaaGreatDoor.Bu
namespace Go.Proofs.YtfnlgfacadmjpaaGreatDoor.Bu
open Go.RowKit

set_option maxRecDepth 100000 in
set_option maxHeartbeats 4000000 in
theorem bulletinMarks_any (x a1 a2 a3 : Int) (w : World) (hE : Env w) (hx : I64 x) (h1 : 0 ≤ a1 ∧ a1 ≤ 255) (h2 : 0 ≤ a2 ∧ a2 ≤ 255) (h3 : 0 ≤ a3 ∧ a3 ≤ 255) :
    Calls Tryz.prog 9 #[.int .i64 x, .int .u8 a1, .int .u8 a2, .int .u8 a3] w fun e w' => e = .returned (.bool true) ∧ Below w.heap.size w w' := by
  have hu : ∀ a : Int, 0 ≤ a ∧ a ≤ 255 → ∃ f : UInt8, (f.toNat : Int) = a := fun a h => ⟨UInt8.ofNat a.toNat, by rw [UInt8.toNat_ofNat']; omega⟩
  obtain ⟨f, rfl⟩ := hu a1 h1
  obtain ⟨s, rfl⟩ := hu a2 h2
  obtain ⟨t, rfl⟩ := hu a3 h3
  clear h1 h2 h3 hu
  have HE := Lib.hid hE
  clear hE
  go_enter Tryz.func9, Tryz.ntmps9
  go_wp2_with fail
  refine (mod_any x _ _ hx (by omega) (by omega)).mono ?_
  rintro e w0 ⟨rfl, e5⟩
  subst e5
  obtain ⟨m, hm⟩ : ∃ m : Nat, x % 26 = (m : Int) := ⟨(x % 26).toNat, by have := Int.emod_nonneg x (by omega : (26 : Int) ≠ 0); omega⟩
  have hmb : m ≤ 25 := by have := Int.emod_lt_of_pos x (by omega : (0 : Int) < 26); omega
  rw [hm]
  have HM := Lib.hid hm
  clear hm
  have HF1 := Lib.hid (fun Y (hY : Below w.heap.size w Y) => fmtE (k := 1 + (m : Int)) (d := 0) ⟨by omega, by omega⟩ (by omega) (.inr rfl) Y (HE.out.under hY))
  have HF2 := Lib.hid (fun Y (hY : Below w.heap.size w Y) => fmtE (k := 0) (d := 1 + (m : Int)) (by omega) ⟨by omega, by omega⟩ (.inl rfl) Y (HE.out.under hY))
  have HF0 := Lib.hid (fun Y (hY : Below w.heap.size w Y) => fmtE (k := 0) (d := 0) (by omega) (by omega) (.inl rfl) Y (HE.out.under hY))
  have HP1 := Lib.hid (fun Y (hY : Below w.heap.size w Y) => parseE (k := 1 + (m : Int)) (d := 0) ⟨by omega, by omega⟩ (by omega) (.inr rfl) Y (HE.out.under hY))
  have HP2 := Lib.hid (fun Y (hY : Below w.heap.size w Y) => parseE (k := 0) (d := 1 + (m : Int)) (by omega) ⟨by omega, by omega⟩ (.inl rfl) Y (HE.out.under hY))
  generalize S (hdT exC 14000000 (1 + (m : Int)) 0 ++ [10]) = t1 at *
  generalize S (hdT exC 14000000 0 (1 + (m : Int)) ++ [10]) = t2 at *
  have H1 := Lib.hid ((⟨Below.refl _ _, fun p hp => absurd hp List.not_mem_nil, List.nodup_nil⟩ : Al w [] w).alloc #[.string eZ, .int .i64 14000000, .int .i64 0, .int .i64 0, .slice none 0 0])
  go_upto_region 3 with fail
  refine forget (fun V => Hid (Al w [(w.heap.size, #[.string eZ, .int .i64 14000000, .int .i64 0, .int .i64 0, .slice none 0 0])] V)) H1 ?_
  clear H1
  obtain ⟨gb, hgb⟩ : ∃ gb, w.heap.size = gb := ⟨_, rfl⟩
  have HGB := Lib.hid hgb
  rw [hgb]
  clear hgb
  intro w2 H2
  go_upto_region 3 with fail
  go_cut [11, 12] from 34 to 35 (fun pc pd X => ∃ gc gd : Nat, pc = .pointer (some ⟨gc, 0, none⟩) ∧ pd = .pointer (some ⟨gd, 0, none⟩) ∧ Hid (Al w [(gc, #[.string eZ, .int .i64 14000000, .int .i64 0, .int .i64 0, .slice none 0 0]), (gd, #[.string eZ, .int .i64 14000000, .int .i64 0, .int .i64 0, .slice none 0 0]), (gb, #[.string eZ, .int .i64 14000000, .int .i64 0, .int .i64 0, .slice none 0 0])] X))
  case first =>
    have I := Lib.hid (H2.out.under (below_drewN (Below.refl _ _) 1) : Al w [(gb, #[.string eZ, .int .i64 14000000, .int .i64 0, .int .i64 0, .slice none 0 0])] w2.drew)
    refine wp_region_held_drew (S := fun Y : World => Y.cell? ⟨gb, 0, none⟩ = some (.string eZ) ∧ Y.cell? ⟨gb, 1, none⟩ = some (.int .i64 14000000) ∧ Y.cell? ⟨gb, 2, none⟩ = some (.int .i64 0) ∧ Y.cell? ⟨gb, 3, none⟩ = some (.int .i64 0) ∧ Y.cell? ⟨gb, 4, none⟩ = some (.slice none 0 0)) (by kernel_rfl) (row5 (I.out.row (gb, #[.string eZ, .int .i64 14000000, .int .i64 0, .int .i64 0, .slice none 0 0]) (by simp)).1) (fun hS => ?_)
    clear H2 HF1 HF2 HF0 HP1 HP2
    generalize w2.drew = X at *
    refine wpAnyH_take (i := 0) (oi := ⟨some 34, _, _, _, _, none⟩) (v := ?_) rfl (by kernel_rfl) (by kernel_rfl) (by kernel_rfl) (fun _ _ _ h => h) (Or.inl ⟨by rfl, ?_⟩) (by assumption) ?_
    case refine_2 => (intro wx hSx; (try dsimp only at hSx); go_simp; first | done | with_reducible rfl)
    try simp only [Act.put, List.setIfInBounds_toArray, List.set_cons_zero, List.set_cons_succ]
    refine wpAnyH_take (i := 1) (oi := ⟨some 35, _, _, _, _, none⟩) (v := ?_) rfl (by kernel_rfl) (by kernel_rfl) (by kernel_rfl) (fun _ _ _ h => h) (Or.inl ⟨by rfl, ?_⟩) (by assumption) ?_
    case refine_2 => (intro wx hSx; (try dsimp only at hSx); go_simp; first | done | with_reducible rfl)
    try simp only [Act.put, List.setIfInBounds_toArray, List.set_cons_zero, List.set_cons_succ]
    refine wpAnyH_ready (rs := [2, 3]) (by kernel_rfl) (by simp) ?_
    refine AllReadyH.cons (o := ⟨some 11, _, _, _, _, none⟩) rfl (fun K hK => ?_) (AllReadyH.cons (o := ⟨some 12, _, _, _, _, none⟩) rfl (fun K hK => ?_) AllReadyH.nil)
    · have K1 := Lib.hid (I.out.alloc #[.string ⟨#[]⟩, .int .i64 0, .int .i64 0, .int .i64 0, .slice none 0 0])
      go_simp
      refine hK.out _ _ (row5 (K1.out.row (gb, #[.string eZ, .int .i64 14000000, .int .i64 0, .int .i64 0, .slice none 0 0]) (by simp)).1) (fun _ => ?_)
      clear hK K I hS
      try simp only [Act.put, List.setIfInBounds_toArray, List.set_cons_zero, List.set_cons_succ]
      generalize X.heap.size = gc at *
      refine El.genH (fun X => Al w [(gc, #[.string ⟨#[]⟩, .int .i64 0, .int .i64 0, .int .i64 0, .slice none 0 0]), (gb, #[.string eZ, .int .i64 14000000, .int .i64 0, .int .i64 0, .slice none 0 0])] X) K1.out ?_
      clear K1
      rintro X I
      have I := Lib.hid I
      have hS : X.cell? ⟨gb, 0, none⟩ = some (.string eZ) ∧ X.cell? ⟨gb, 1, none⟩ = some (.int .i64 14000000) ∧ X.cell? ⟨gb, 2, none⟩ = some (.int .i64 0) ∧ X.cell? ⟨gb, 3, none⟩ = some (.int .i64 0) ∧ X.cell? ⟨gb, 4, none⟩ = some (.slice none 0 0) := (row5 (I.out.row (gb, #[.string eZ, .int .i64 14000000, .int .i64 0, .int .i64 0, .slice none 0 0]) (by simp)).1)
      refine wpAnyH_ready (rs := [3]) (by kernel_rfl) (by simp) ?_
      refine AllReadyH.cons (o := ⟨some 12, _, _, _, _, none⟩) rfl (fun K hK => ?_) AllReadyH.nil
      have K1 := Lib.hid (I.out.alloc #[.string ⟨#[]⟩, .int .i64 0, .int .i64 0, .int .i64 0, .slice none 0 0])
      go_simp
      refine hK.out _ _ (row5 (K1.out.row (gb, #[.string eZ, .int .i64 14000000, .int .i64 0, .int .i64 0, .slice none 0 0]) (by simp)).1) (fun _ => ?_)
      clear hK K I hS
      try simp only [Act.put, List.setIfInBounds_toArray, List.set_cons_zero, List.set_cons_succ]
      generalize X.heap.size = gd at *
      refine El.genH (fun X => Al w [(gd, #[.string ⟨#[]⟩, .int .i64 0, .int .i64 0, .int .i64 0, .slice none 0 0]), (gc, #[.string ⟨#[]⟩, .int .i64 0, .int .i64 0, .int .i64 0, .slice none 0 0]), (gb, #[.string eZ, .int .i64 14000000, .int .i64 0, .int .i64 0, .slice none 0 0])] X) K1.out ?_
      clear K1
      rintro X I
      have I := Lib.hid I
      have hS : X.cell? ⟨gb, 0, none⟩ = some (.string eZ) ∧ X.cell? ⟨gb, 1, none⟩ = some (.int .i64 14000000) ∧ X.cell? ⟨gb, 2, none⟩ = some (.int .i64 0) ∧ X.cell? ⟨gb, 3, none⟩ = some (.int .i64 0) ∧ X.cell? ⟨gb, 4, none⟩ = some (.slice none 0 0) := (row5 (I.out.row (gb, #[.string eZ, .int .i64 14000000, .int .i64 0, .int .i64 0, .slice none 0 0]) (by simp)).1)
      refine wpAnyH_ready (rs := [4]) (by kernel_rfl) (by simp) ?_
      refine AllReadyH.cons (o := ⟨none, _, _, _, _, none⟩) rfl (fun K hK => ?_) AllReadyH.nil
      have K0 : Hid (Al w [(gc, #[.string ⟨#[]⟩, .int .i64 0, .int .i64 0, .int .i64 0, .slice none 0 0]), (gd, #[.string ⟨#[]⟩, .int .i64 0, .int .i64 0, .int .i64 0, .slice none 0 0]), (gb, #[.string eZ, .int .i64 14000000, .int .i64 0, .int .i64 0, .slice none 0 0])] X) := Lib.hid (I.out.perm (List.Perm.swap _ _ _))
      have f0 := (K0.out.row (gc, #[.string ⟨#[]⟩, .int .i64 0, .int .i64 0, .int .i64 0, .slice none 0 0]) (by simp)).1.thaw 0
      have f1 := (K0.out.row (gc, #[.string ⟨#[]⟩, .int .i64 0, .int .i64 0, .int .i64 0, .slice none 0 0]) (by simp)).1.thaw 1
      have f2 := (K0.out.row (gc, #[.string ⟨#[]⟩, .int .i64 0, .int .i64 0, .int .i64 0, .slice none 0 0]) (by simp)).1.thaw 2
      have f3 := (K0.out.row (gc, #[.string ⟨#[]⟩, .int .i64 0, .int .i64 0, .int .i64 0, .slice none 0 0]) (by simp)).1.thaw 3
      have f4 := (K0.out.row (gc, #[.string ⟨#[]⟩, .int .i64 0, .int .i64 0, .int .i64 0, .slice none 0 0]) (by simp)).1.thaw 4
      obtain ⟨q0, q1, q2, q3, q4⟩ := row5 (K0.out.row (gc, #[.string ⟨#[]⟩, .int .i64 0, .int .i64 0, .int .i64 0, .slice none 0 0]) (by simp)).1
      have K1 := Lib.hid (K0.out.fill (.string eZ) (.int .i64 14000000) (.int .i64 0) (.int .i64 0) (.slice none 0 0))
      go_simp
      refine hK.out _ _ (row5 (K1.out.row (gb, #[.string eZ, .int .i64 14000000, .int .i64 0, .int .i64 0, .slice none 0 0]) (by simp)).1) (fun _ => ?_)
      clear hK K I hS K0 f0 f1 f2 f3 f4 q0 q1 q2 q3 q4
      try simp only [Act.put, List.setIfInBounds_toArray, List.set_cons_zero, List.set_cons_succ]
      refine El.genH (fun X => Al w [(gc, #[.string eZ, .int .i64 14000000, .int .i64 0, .int .i64 0, .slice none 0 0]), (gd, #[.string ⟨#[]⟩, .int .i64 0, .int .i64 0, .int .i64 0, .slice none 0 0]), (gb, #[.string eZ, .int .i64 14000000, .int .i64 0, .int .i64 0, .slice none 0 0])] X) K1.out ?_
      clear K1
      rintro X I
      have I := Lib.hid I
      have hS : X.cell? ⟨gb, 0, none⟩ = some (.string eZ) ∧ X.cell? ⟨gb, 1, none⟩ = some (.int .i64 14000000) ∧ X.cell? ⟨gb, 2, none⟩ = some (.int .i64 0) ∧ X.cell? ⟨gb, 3, none⟩ = some (.int .i64 0) ∧ X.cell? ⟨gb, 4, none⟩ = some (.slice none 0 0) := (row5 (I.out.row (gb, #[.string eZ, .int .i64 14000000, .int .i64 0, .int .i64 0, .slice none 0 0]) (by simp)).1)
      refine wpAnyH_ready (rs := [5]) (by kernel_rfl) (by simp) ?_
      refine AllReadyH.cons (o := ⟨none, _, _, _, _, none⟩) rfl (fun K hK => ?_) AllReadyH.nil
      have K0 : Hid (Al w [(gd, #[.string ⟨#[]⟩, .int .i64 0, .int .i64 0, .int .i64 0, .slice none 0 0]), (gc, #[.string eZ, .int .i64 14000000, .int .i64 0, .int .i64 0, .slice none 0 0]), (gb, #[.string eZ, .int .i64 14000000, .int .i64 0, .int .i64 0, .slice none 0 0])] X) := Lib.hid (I.out.perm (List.Perm.swap _ _ _))
      have f0 := (K0.out.row (gd, #[.string ⟨#[]⟩, .int .i64 0, .int .i64 0, .int .i64 0, .slice none 0 0]) (by simp)).1.thaw 0
      have f1 := (K0.out.row (gd, #[.string ⟨#[]⟩, .int .i64 0, .int .i64 0, .int .i64 0, .slice none 0 0]) (by simp)).1.thaw 1
      have f2 := (K0.out.row (gd, #[.string ⟨#[]⟩, .int .i64 0, .int .i64 0, .int .i64 0, .slice none 0 0]) (by simp)).1.thaw 2
      have f3 := (K0.out.row (gd, #[.string ⟨#[]⟩, .int .i64 0, .int .i64 0, .int .i64 0, .slice none 0 0]) (by simp)).1.thaw 3
      have f4 := (K0.out.row (gd, #[.string ⟨#[]⟩, .int .i64 0, .int .i64 0, .int .i64 0, .slice none 0 0]) (by simp)).1.thaw 4
      obtain ⟨q0, q1, q2, q3, q4⟩ := row5 (K0.out.row (gd, #[.string ⟨#[]⟩, .int .i64 0, .int .i64 0, .int .i64 0, .slice none 0 0]) (by simp)).1
      have K1 := Lib.hid (K0.out.fill (.string eZ) (.int .i64 14000000) (.int .i64 0) (.int .i64 0) (.slice none 0 0))
      go_simp
      refine hK.out _ _ (row5 (K1.out.row (gb, #[.string eZ, .int .i64 14000000, .int .i64 0, .int .i64 0, .slice none 0 0]) (by simp)).1) (fun _ => ?_)
      clear hK K I hS K0 f0 f1 f2 f3 f4 q0 q1 q2 q3 q4
      try simp only [Act.put, List.setIfInBounds_toArray, List.set_cons_zero, List.set_cons_succ]
      refine El.genH (fun X => Al w [(gd, #[.string eZ, .int .i64 14000000, .int .i64 0, .int .i64 0, .slice none 0 0]), (gc, #[.string eZ, .int .i64 14000000, .int .i64 0, .int .i64 0, .slice none 0 0]), (gb, #[.string eZ, .int .i64 14000000, .int .i64 0, .int .i64 0, .slice none 0 0])] X) K1.out ?_
      clear K1
      rintro X I
      have I := Lib.hid I
      have hS : X.cell? ⟨gb, 0, none⟩ = some (.string eZ) ∧ X.cell? ⟨gb, 1, none⟩ = some (.int .i64 14000000) ∧ X.cell? ⟨gb, 2, none⟩ = some (.int .i64 0) ∧ X.cell? ⟨gb, 3, none⟩ = some (.int .i64 0) ∧ X.cell? ⟨gb, 4, none⟩ = some (.slice none 0 0) := (row5 (I.out.row (gb, #[.string eZ, .int .i64 14000000, .int .i64 0, .int .i64 0, .slice none 0 0]) (by simp)).1)
      refine wpAnyH_done (by kernel_rfl) ?_ _
      clear hS
      go_wp2_with fail
      go_meet
      exact ⟨gc, gd, rfl, rfl, Lib.hid (I.out.perm (List.Perm.swap _ _ _))⟩
    · have K1 := Lib.hid (I.out.alloc #[.string ⟨#[]⟩, .int .i64 0, .int .i64 0, .int .i64 0, .slice none 0 0])
      go_simp
      refine hK.out _ _ (row5 (K1.out.row (gb, #[.string eZ, .int .i64 14000000, .int .i64 0, .int .i64 0, .slice none 0 0]) (by simp)).1) (fun _ => ?_)
      clear hK K I hS
      try simp only [Act.put, List.setIfInBounds_toArray, List.set_cons_zero, List.set_cons_succ]
      generalize X.heap.size = gd at *
      refine El.genH (fun X => Al w [(gd, #[.string ⟨#[]⟩, .int .i64 0, .int .i64 0, .int .i64 0, .slice none 0 0]), (gb, #[.string eZ, .int .i64 14000000, .int .i64 0, .int .i64 0, .slice none 0 0])] X) K1.out ?_
      clear K1
      rintro X I
      have I := Lib.hid I
      have hS : X.cell? ⟨gb, 0, none⟩ = some (.string eZ) ∧ X.cell? ⟨gb, 1, none⟩ = some (.int .i64 14000000) ∧ X.cell? ⟨gb, 2, none⟩ = some (.int .i64 0) ∧ X.cell? ⟨gb, 3, none⟩ = some (.int .i64 0) ∧ X.cell? ⟨gb, 4, none⟩ = some (.slice none 0 0) := (row5 (I.out.row (gb, #[.string eZ, .int .i64 14000000, .int .i64 0, .int .i64 0, .slice none 0 0]) (by simp)).1)
      refine wpAnyH_ready (rs := [2]) (by kernel_rfl) (by simp) ?_
      refine AllReadyH.cons (o := ⟨some 11, _, _, _, _, none⟩) rfl (fun K hK => ?_) AllReadyH.nil
      have K1 := Lib.hid (I.out.alloc #[.string ⟨#[]⟩, .int .i64 0, .int .i64 0, .int .i64 0, .slice none 0 0])
      go_simp
      refine hK.out _ _ (row5 (K1.out.row (gb, #[.string eZ, .int .i64 14000000, .int .i64 0, .int .i64 0, .slice none 0 0]) (by simp)).1) (fun _ => ?_)
      clear hK K I hS
      try simp only [Act.put, List.setIfInBounds_toArray, List.set_cons_zero, List.set_cons_succ]
      generalize X.heap.size = gc at *
      refine El.genH (fun X => Al w [(gc, #[.string ⟨#[]⟩, .int .i64 0, .int .i64 0, .int .i64 0, .slice none 0 0]), (gd, #[.string ⟨#[]⟩, .int .i64 0, .int .i64 0, .int .i64 0, .slice none 0 0]), (gb, #[.string eZ, .int .i64 14000000, .int .i64 0, .int .i64 0, .slice none 0 0])] X) K1.out ?_
      clear K1
      rintro X I
      have I := Lib.hid I
      have hS : X.cell? ⟨gb, 0, none⟩ = some (.string eZ) ∧ X.cell? ⟨gb, 1, none⟩ = some (.int .i64 14000000) ∧ X.cell? ⟨gb, 2, none⟩ = some (.int .i64 0) ∧ X.cell? ⟨gb, 3, none⟩ = some (.int .i64 0) ∧ X.cell? ⟨gb, 4, none⟩ = some (.slice none 0 0) := (row5 (I.out.row (gb, #[.string eZ, .int .i64 14000000, .int .i64 0, .int .i64 0, .slice none 0 0]) (by simp)).1)
      refine wpAnyH_ready (rs := [4]) (by kernel_rfl) (by simp) ?_
      refine AllReadyH.cons (o := ⟨none, _, _, _, _, none⟩) rfl (fun K hK => ?_) AllReadyH.nil
      have K0 : Hid (Al w [(gc, #[.string ⟨#[]⟩, .int .i64 0, .int .i64 0, .int .i64 0, .slice none 0 0]), (gd, #[.string ⟨#[]⟩, .int .i64 0, .int .i64 0, .int .i64 0, .slice none 0 0]), (gb, #[.string eZ, .int .i64 14000000, .int .i64 0, .int .i64 0, .slice none 0 0])] X) := Lib.hid (I.out)
      have f0 := (K0.out.row (gc, #[.string ⟨#[]⟩, .int .i64 0, .int .i64 0, .int .i64 0, .slice none 0 0]) (by simp)).1.thaw 0
      have f1 := (K0.out.row (gc, #[.string ⟨#[]⟩, .int .i64 0, .int .i64 0, .int .i64 0, .slice none 0 0]) (by simp)).1.thaw 1
      have f2 := (K0.out.row (gc, #[.string ⟨#[]⟩, .int .i64 0, .int .i64 0, .int .i64 0, .slice none 0 0]) (by simp)).1.thaw 2
      have f3 := (K0.out.row (gc, #[.string ⟨#[]⟩, .int .i64 0, .int .i64 0, .int .i64 0, .slice none 0 0]) (by simp)).1.thaw 3
      have f4 := (K0.out.row (gc, #[.string ⟨#[]⟩, .int .i64 0, .int .i64 0, .int .i64 0, .slice none 0 0]) (by simp)).1.thaw 4
      obtain ⟨q0, q1, q2, q3, q4⟩ := row5 (K0.out.row (gc, #[.string ⟨#[]⟩, .int .i64 0, .int .i64 0, .int .i64 0, .slice none 0 0]) (by simp)).1
      have K1 := Lib.hid (K0.out.fill (.string eZ) (.int .i64 14000000) (.int .i64 0) (.int .i64 0) (.slice none 0 0))
      go_simp
      refine hK.out _ _ (row5 (K1.out.row (gb, #[.string eZ, .int .i64 14000000, .int .i64 0, .int .i64 0, .slice none 0 0]) (by simp)).1) (fun _ => ?_)
      clear hK K I hS K0 f0 f1 f2 f3 f4 q0 q1 q2 q3 q4
      try simp only [Act.put, List.setIfInBounds_toArray, List.set_cons_zero, List.set_cons_succ]
      refine El.genH (fun X => Al w [(gc, #[.string eZ, .int .i64 14000000, .int .i64 0, .int .i64 0, .slice none 0 0]), (gd, #[.string ⟨#[]⟩, .int .i64 0, .int .i64 0, .int .i64 0, .slice none 0 0]), (gb, #[.string eZ, .int .i64 14000000, .int .i64 0, .int .i64 0, .slice none 0 0])] X) K1.out ?_
      clear K1
      rintro X I
      have I := Lib.hid I
      have hS : X.cell? ⟨gb, 0, none⟩ = some (.string eZ) ∧ X.cell? ⟨gb, 1, none⟩ = some (.int .i64 14000000) ∧ X.cell? ⟨gb, 2, none⟩ = some (.int .i64 0) ∧ X.cell? ⟨gb, 3, none⟩ = some (.int .i64 0) ∧ X.cell? ⟨gb, 4, none⟩ = some (.slice none 0 0) := (row5 (I.out.row (gb, #[.string eZ, .int .i64 14000000, .int .i64 0, .int .i64 0, .slice none 0 0]) (by simp)).1)
      refine wpAnyH_ready (rs := [5]) (by kernel_rfl) (by simp) ?_
      refine AllReadyH.cons (o := ⟨none, _, _, _, _, none⟩) rfl (fun K hK => ?_) AllReadyH.nil
      have K0 : Hid (Al w [(gd, #[.string ⟨#[]⟩, .int .i64 0, .int .i64 0, .int .i64 0, .slice none 0 0]), (gc, #[.string eZ, .int .i64 14000000, .int .i64 0, .int .i64 0, .slice none 0 0]), (gb, #[.string eZ, .int .i64 14000000, .int .i64 0, .int .i64 0, .slice none 0 0])] X) := Lib.hid (I.out.perm (List.Perm.swap _ _ _))
      have f0 := (K0.out.row (gd, #[.string ⟨#[]⟩, .int .i64 0, .int .i64 0, .int .i64 0, .slice none 0 0]) (by simp)).1.thaw 0
      have f1 := (K0.out.row (gd, #[.string ⟨#[]⟩, .int .i64 0, .int .i64 0, .int .i64 0, .slice none 0 0]) (by simp)).1.thaw 1
      have f2 := (K0.out.row (gd, #[.string ⟨#[]⟩, .int .i64 0, .int .i64 0, .int .i64 0, .slice none 0 0]) (by simp)).1.thaw 2
      have f3 := (K0.out.row (gd, #[.string ⟨#[]⟩, .int .i64 0, .int .i64 0, .int .i64 0, .slice none 0 0]) (by simp)).1.thaw 3
      have f4 := (K0.out.row (gd, #[.string ⟨#[]⟩, .int .i64 0, .int .i64 0, .int .i64 0, .slice none 0 0]) (by simp)).1.thaw 4
      obtain ⟨q0, q1, q2, q3, q4⟩ := row5 (K0.out.row (gd, #[.string ⟨#[]⟩, .int .i64 0, .int .i64 0, .int .i64 0, .slice none 0 0]) (by simp)).1
      have K1 := Lib.hid (K0.out.fill (.string eZ) (.int .i64 14000000) (.int .i64 0) (.int .i64 0) (.slice none 0 0))
      go_simp
      refine hK.out _ _ (row5 (K1.out.row (gb, #[.string eZ, .int .i64 14000000, .int .i64 0, .int .i64 0, .slice none 0 0]) (by simp)).1) (fun _ => ?_)
      clear hK K I hS K0 f0 f1 f2 f3 f4 q0 q1 q2 q3 q4
      try simp only [Act.put, List.setIfInBounds_toArray, List.set_cons_zero, List.set_cons_succ]
      refine El.genH (fun X => Al w [(gd, #[.string eZ, .int .i64 14000000, .int .i64 0, .int .i64 0, .slice none 0 0]), (gc, #[.string eZ, .int .i64 14000000, .int .i64 0, .int .i64 0, .slice none 0 0]), (gb, #[.string eZ, .int .i64 14000000, .int .i64 0, .int .i64 0, .slice none 0 0])] X) K1.out ?_
      clear K1
      rintro X I
      have I := Lib.hid I
      have hS : X.cell? ⟨gb, 0, none⟩ = some (.string eZ) ∧ X.cell? ⟨gb, 1, none⟩ = some (.int .i64 14000000) ∧ X.cell? ⟨gb, 2, none⟩ = some (.int .i64 0) ∧ X.cell? ⟨gb, 3, none⟩ = some (.int .i64 0) ∧ X.cell? ⟨gb, 4, none⟩ = some (.slice none 0 0) := (row5 (I.out.row (gb, #[.string eZ, .int .i64 14000000, .int .i64 0, .int .i64 0, .slice none 0 0]) (by simp)).1)
      refine wpAnyH_done (by kernel_rfl) ?_ _
      clear hS
      go_wp2_with fail
      go_meet
      exact ⟨gc, gd, rfl, rfl, Lib.hid (I.out.perm (List.Perm.swap _ _ _))⟩
  case rest =>
    obtain ⟨gc, gd, rfl, rfl, I⟩ := hcut
    clear H2
    have K1 := Lib.hid (I.out.put 2 (.int .i64 (1 + (m : Int))) : Al w [(gc, #[.string eZ, .int .i64 14000000, .int .i64 (1 + (m : Int)), .int .i64 0, .slice none 0 0]), (gd, #[.string eZ, .int .i64 14000000, .int .i64 0, .int .i64 0, .slice none 0 0]), (gb, #[.string eZ, .int .i64 14000000, .int .i64 0, .int .i64 0, .slice none 0 0])] (wc.setCell ⟨gc, 2, none⟩ (.int .i64 (1 + (m : Int)))))
    have K2 := Lib.hid (((K1.out.perm (List.Perm.swap _ _ _)).put 3 (.int .i64 (1 + (m : Int)))).perm (List.Perm.swap _ _ _) : Al w [(gc, #[.string eZ, .int .i64 14000000, .int .i64 (1 + (m : Int)), .int .i64 0, .slice none 0 0]), (gd, #[.string eZ, .int .i64 14000000, .int .i64 0, .int .i64 (1 + (m : Int)), .slice none 0 0]), (gb, #[.string eZ, .int .i64 14000000, .int .i64 0, .int .i64 0, .slice none 0 0])] ((wc.setCell ⟨gc, 2, none⟩ (.int .i64 (1 + (m : Int)))).setCell ⟨gd, 3, none⟩ (.int .i64 (1 + (m : Int)))))
    have fc := (I.out.row (gc, #[.string eZ, .int .i64 14000000, .int .i64 0, .int .i64 0, .slice none 0 0]) (by simp)).1.thaw 2
    have qc := ((I.out.row (gc, #[.string eZ, .int .i64 14000000, .int .i64 0, .int .i64 0, .slice none 0 0]) (by simp)).1.cell 2).trans rfl
    have fd := (K1.out.row (gd, #[.string eZ, .int .i64 14000000, .int .i64 0, .int .i64 0, .slice none 0 0]) (by simp)).1.thaw 3
    have qd := ((K1.out.row (gd, #[.string eZ, .int .i64 14000000, .int .i64 0, .int .i64 0, .slice none 0 0]) (by simp)).1.cell 3).trans rfl
    go_upto_region 5 with fail
    clear fc qc fd qd K1 I
    refine forget (fun V => Hid (Al w [(gc, #[.string eZ, .int .i64 14000000, .int .i64 (1 + (m : Int)), .int .i64 0, .slice none 0 0]), (gd, #[.string eZ, .int .i64 14000000, .int .i64 0, .int .i64 (1 + (m : Int)), .slice none 0 0]), (gb, #[.string eZ, .int .i64 14000000, .int .i64 0, .int .i64 0, .slice none 0 0])] V)) K2 ?_
    clear K2
    intro w3 I
    obtain ⟨q0, q1, q2, q3, q4⟩ := row5 (I.out.row (gc, #[.string eZ, .int .i64 14000000, .int .i64 (1 + (m : Int)), .int .i64 0, .slice none 0 0]) (by simp)).1
    go_wp2_with fail
    refine (HF1.out _ I.out.low).mono ?_
    rintro e w4 ⟨rfl, hb⟩
    have J := Lib.hid (I.out.under hb)
    clear hb HF1 I q0 q1 q2 q3 q4
    obtain ⟨q0, q1, q2, q3, q4⟩ := row5 (J.out.row (gd, #[.string eZ, .int .i64 14000000, .int .i64 0, .int .i64 (1 + (m : Int)), .slice none 0 0]) (by simp)).1
    go_wp2_with fail
    refine (HF2.out _ J.out.low).mono ?_
    rintro e w5 ⟨rfl, hb⟩
    have I := Lib.hid (J.out.under hb)
    clear hb HF2 J q0 q1 q2 q3 q4
    obtain ⟨q0, q1, q2, q3, q4⟩ := row5 (I.out.row (gb, #[.string eZ, .int .i64 14000000, .int .i64 0, .int .i64 0, .slice none 0 0]) (by simp)).1
    go_wp2_with fail
    refine (HP1.out _ I.out.low).mono ?_
    rintro e w6 ⟨A1, c1, B1, d1, rfl, hc1, hb⟩
    have J := Lib.hid ((I.out.under hb).alloc #[.string eZ, .int .i64 14000000, .int .i64 (1 + (m : Int)), .int .i64 0, .slice A1 0 c1])
    clear hb HP1 I q0 q1 q2 q3 q4
    go_upto_region 8 with fail
    refine forget (fun V => Hid (Al w [(w6.heap.size, #[.string eZ, .int .i64 14000000, .int .i64 (1 + (m : Int)), .int .i64 0, .slice A1 0 c1]), (gc, #[.string eZ, .int .i64 14000000, .int .i64 (1 + (m : Int)), .int .i64 0, .slice none 0 0]), (gd, #[.string eZ, .int .i64 14000000, .int .i64 0, .int .i64 (1 + (m : Int)), .slice none 0 0]), (gb, #[.string eZ, .int .i64 14000000, .int .i64 0, .int .i64 0, .slice none 0 0])] V)) J ?_
    clear J
    generalize w6.heap.size = gx at *
    intro w7 I
    obtain ⟨q0, q1, q2, q3, q4⟩ := row5 (I.out.row (gb, #[.string eZ, .int .i64 14000000, .int .i64 0, .int .i64 0, .slice none 0 0]) (by simp)).1
    go_wp2_with fail
    refine (HP2.out _ I.out.low).mono ?_
    rintro e w8 ⟨A2, c2, B2, d2, rfl, hc2, hb⟩
    have J := Lib.hid ((I.out.under hb).alloc #[.string eZ, .int .i64 14000000, .int .i64 0, .int .i64 (1 + (m : Int)), .slice A2 0 c2])
    clear hb HP2 I q0 q1 q2 q3 q4
    go_upto_region 9 with fail
    refine forget (fun V => Hid (Al w [(w8.heap.size, #[.string eZ, .int .i64 14000000, .int .i64 0, .int .i64 (1 + (m : Int)), .slice A2 0 c2]), (gx, #[.string eZ, .int .i64 14000000, .int .i64 (1 + (m : Int)), .int .i64 0, .slice A1 0 c1]), (gc, #[.string eZ, .int .i64 14000000, .int .i64 (1 + (m : Int)), .int .i64 0, .slice none 0 0]), (gd, #[.string eZ, .int .i64 14000000, .int .i64 0, .int .i64 (1 + (m : Int)), .slice none 0 0]), (gb, #[.string eZ, .int .i64 14000000, .int .i64 0, .int .i64 0, .slice none 0 0])] V)) J ?_
    clear J
    generalize w8.heap.size = gy at *
    intro w9 I
    obtain ⟨p0, p1, p2, p3, p4⟩ := row5 (I.out.row (gx, #[.string eZ, .int .i64 14000000, .int .i64 (1 + (m : Int)), .int .i64 0, .slice A1 0 c1]) (by simp)).1
    obtain ⟨q0, q1, q2, q3, q4⟩ := row5 (I.out.row (gc, #[.string eZ, .int .i64 14000000, .int .i64 (1 + (m : Int)), .int .i64 0, .slice none 0 0]) (by simp)).1
    have HS1 := Lib.hid (sameE (1 + (m : Int)) 0 A1 hc1 w9)
    have HS2 := Lib.hid (fun Y => sameE 0 (1 + (m : Int)) A2 hc2 Y)
    clear hc1 hc2
    go_wp2_with fail
    refine HS1.out.mono ?_
    rintro e w10 ⟨rfl, hb⟩
    have J := Lib.hid (I.out.under hb)
    clear hb HS1 I p0 p1 p2 p3 p4 q0 q1 q2 q3 q4
    obtain ⟨p0, p1, p2, p3, p4⟩ := row5 (J.out.row (gy, #[.string eZ, .int .i64 14000000, .int .i64 0, .int .i64 (1 + (m : Int)), .slice A2 0 c2]) (by simp)).1
    obtain ⟨q0, q1, q2, q3, q4⟩ := row5 (J.out.row (gd, #[.string eZ, .int .i64 14000000, .int .i64 0, .int .i64 (1 + (m : Int)), .slice none 0 0]) (by simp)).1
    go_wp2_with fail
    refine (HS2.out _).mono ?_
    rintro e w11 ⟨rfl, hb⟩
    have I := Lib.hid (J.out.under hb)
    clear hb HS2 J p0 p1 p2 p3 p4 q0 q1 q2 q3 q4
    obtain ⟨q0, q1, q2, q3, q4⟩ := row5 (I.out.row (gb, #[.string eZ, .int .i64 14000000, .int .i64 0, .int .i64 0, .slice none 0 0]) (by simp)).1
    go_wp2_with fail
    refine (HF0.out _ I.out.low).mono ?_
    rintro e w12 ⟨rfl, hb⟩
    have J := Lib.hid (I.out.under hb)
    clear hb HF0 I q0 q1 q2 q3 q4
    have K := Lib.hid (J.out.tail.tail.tail.tail : Al w [(gb, #[.string eZ, .int .i64 14000000, .int .i64 0, .int .i64 0, .slice none 0 0])] w12)
    clear J
    have HH : Hid (hdT exC 14000000 0 0 = H0) := Lib.hid rfl
    rw [HH.out]
    obtain ⟨n0, hn0⟩ : ∃ n0, H0.length = n0 := ⟨_, rfl⟩
    have hn1 : n0 ≤ 28 := by
      have hV := vdE (k := 0) (d := 0) (by omega) (by omega) (.inl rfl)
      have := hdT_len hV.hctr hV.htime hV.hcor hV.hdel hV.hone
      rw [HH.out, hn0] at this
      exact this
    have hsz : (S (H0 ++ [10])).size = n0 + 1 := by rw [S_size, ← hn0]; simp
    have HX := Lib.hid (show (S (H0 ++ [10])).extract 0 n0 = S H0 by rw [S_extract, ← hn0]; simp)
    have HPO := Lib.hid (fun Y (hY : Below w.heap.size w Y) => odd_parse f s t Y (HE.out.under hY))
    have HN0 := Lib.hid hn0
    clear hn0 HH
    generalize S (H0 ++ [10]) = v0 at *
    have hz1 : ((n0 : Int) + 1 == 0) = false := by rw [beq_eq_false_iff_ne]; omega
    go_upto_region 14 with fail
    go_cut [25] from 104 to 116 (fun o X => o = .string (S (H0 ++ [32, f, s, t, 10])) ∧ Hid (Al w [(gb, #[.string eZ, .int .i64 14000000, .int .i64 0, .int .i64 0, .slice none 0 0])] X))
    case first =>
      have I := Lib.hid (K.out.under (below_drewN (Below.refl _ _) 1) : Al w [(gb, #[.string eZ, .int .i64 14000000, .int .i64 0, .int .i64 0, .slice none 0 0])] w12.drew)
      refine wp_region_held_drew (S := fun _ : World => True) (by kernel_rfl) trivial (fun hS => ?_)
      clear K
      generalize w12.drew = X at *
      have i1 : (0 : Int) ≤ (n0 : Int) := by omega
      have i2 : (n0 : Int) ≤ (n0 : Int) + 1 := by omega
      have xw : IntKind.i64.wrap (n0 : Int) = (n0 : Int) := IntWalk.i64_in _ (by omega)
      have cc1 : ¬ 9223372036854775807 < n0 + 1 := by omega
      have cc2 : ¬ 9223372036854775807 < n0 + 1 + 3 := by omega
      have cc3 : ¬ 9223372036854775807 < n0 + 1 + 3 + 1 := by omega
      have hs3 : (S [f, s, t]).size = 3 := S_size _
      refine wpAnyH_take (i := 0) (oi := ⟨some 104, _, _, _, _, none⟩) (v := ?_) rfl (by kernel_rfl) (by kernel_rfl) (by kernel_rfl) (fun _ _ _ h => h) (Or.inl ⟨by rfl, ?_⟩) (by assumption) ?_
      case refine_2 => (intro wx hSx; (try dsimp only at hSx); go_simp; first | done | with_reducible rfl)
      try simp only [Act.put, List.setIfInBounds_toArray, List.set_cons_zero, List.set_cons_succ]
      refine wpAnyH_take (i := 1) (oi := ⟨some 105, _, _, _, _, none⟩) (v := ?_) rfl (by kernel_rfl) (by kernel_rfl) (by kernel_rfl) (fun _ _ _ h => h) (Or.inl ⟨by rfl, ?_⟩) (by assumption) ?_
      case refine_2 => (intro wx hSx; (try dsimp only at hSx); go_simp; first | done | with_reducible rfl)
      try simp only [Act.put, List.setIfInBounds_toArray, List.set_cons_zero, List.set_cons_succ]
      refine wpAnyH_take (i := 2) (oi := ⟨some 106, _, _, _, _, none⟩) (v := ?_) rfl (by kernel_rfl) (by kernel_rfl) (by kernel_rfl) (fun _ _ _ h => h) (Or.inl ⟨by rfl, ?_⟩) (by assumption) ?_
      case refine_2 => (intro wx hSx; (try dsimp only at hSx); go_simp; first | done | with_reducible rfl)
      try simp only [Act.put, List.setIfInBounds_toArray, List.set_cons_zero, List.set_cons_succ]
      refine wpAnyH_take (i := 3) (oi := ⟨some 107, _, _, _, _, none⟩) (v := ?_) rfl (by kernel_rfl) (by kernel_rfl) (by kernel_rfl) (fun _ _ _ h => h) (Or.inl ⟨by rfl, ?_⟩) (by assumption) ?_
      case refine_2 => (intro wx hSx; (try dsimp only at hSx); go_simp; first | done | with_reducible rfl)
      try simp only [Act.put, List.setIfInBounds_toArray, List.set_cons_zero, List.set_cons_succ]
      refine wpAnyH_take (i := 4) (oi := ⟨some 108, _, _, _, _, none⟩) (v := ?_) rfl (by kernel_rfl) (by kernel_rfl) (by kernel_rfl) (fun _ _ _ h => h) (Or.inl ⟨by rfl, ?_⟩) (by assumption) ?_
      case refine_2 => (intro wx hSx; (try dsimp only at hSx); go_simp; first | done | with_reducible rfl)
      try simp only [Act.put, List.setIfInBounds_toArray, List.set_cons_zero, List.set_cons_succ]
      refine wpAnyH_take (i := 5) (oi := ⟨some 109, _, _, _, _, none⟩) (v := ?_) rfl (by kernel_rfl) (by kernel_rfl) (by kernel_rfl) (fun _ _ _ h => h) (Or.inl ⟨by rfl, ?_⟩) (by assumption) ?_
      case refine_2 => (intro wx hSx; (try dsimp only at hSx); go_simp; first | done | with_reducible rfl)
      try simp only [Act.put, List.setIfInBounds_toArray, List.set_cons_zero, List.set_cons_succ]
      refine wpAnyH_take (i := 6) (oi := ⟨some 110, _, _, _, _, none⟩) (v := ?_) rfl (by kernel_rfl) (by kernel_rfl) (by kernel_rfl) (fun _ _ _ h => h) (Or.inl ⟨by rfl, ?_⟩) (by assumption) ?_
      case refine_2 => (intro wx hSx; (try dsimp only at hSx); go_simp; first | done | with_reducible rfl)
      try simp only [Act.put, List.setIfInBounds_toArray, List.set_cons_zero, List.set_cons_succ]
      refine wpAnyH_take (i := 7) (oi := ⟨some 111, _, _, _, _, none⟩) (v := ?_) rfl (by kernel_rfl) (by kernel_rfl) (by kernel_rfl) (fun _ _ _ h => h) (Or.inl ⟨by rfl, ?_⟩) (by assumption) ?_
      case refine_2 => (intro wx hSx; (try dsimp only at hSx); go_simp; first | done | with_reducible rfl)
      try simp only [Act.put, List.setIfInBounds_toArray, List.set_cons_zero, List.set_cons_succ]
      refine wpAnyH_take (i := 8) (oi := ⟨some 112, _, _, _, _, none⟩) (v := ?_) rfl (by kernel_rfl) (by kernel_rfl) (by kernel_rfl) (fun _ _ _ h => h) (Or.inl ⟨by rfl, ?_⟩) (by assumption) ?_
      case refine_2 => (intro wx hSx; (try dsimp only at hSx); go_simp; first | done | with_reducible rfl)
      try simp only [Act.put, List.setIfInBounds_toArray, List.set_cons_zero, List.set_cons_succ]
      refine wpAnyH_ready (rs := [9]) (by kernel_rfl) (by simp) ?_
      refine AllReadyH.cons (o := ⟨some 113, _, _, _, _, none⟩) rfl (fun K hK => ?_) AllReadyH.nil
      have hb3 : Below X.heap.size X (X.alloc (.cells #[.int .u8 (f.toNat : Int), .int .u8 (s.toNat : Int), .int .u8 (t.toNat : Int)] 5)) := (Below.refl _ _).alloc (Nat.le_refl _) _
      have K1 := Lib.hid (⟨I.out.under hb3, Row.new X #[.int .u8 (f.toNat : Int), .int .u8 (s.toNat : Int), .int .u8 (t.toNat : Int)] 5⟩ : Al w [(gb, #[.string eZ, .int .i64 14000000, .int .i64 0, .int .i64 0, .slice none 0 0])] (X.alloc (.cells #[.int .u8 (f.toNat : Int), .int .u8 (s.toNat : Int), .int .u8 (t.toNat : Int)] 5)) ∧ Row (X.alloc (.cells #[.int .u8 (f.toNat : Int), .int .u8 (s.toNat : Int), .int .u8 (t.toNat : Int)] 5)) X.heap.size 5 #[.int .u8 (f.toNat : Int), .int .u8 (s.toNat : Int), .int .u8 (t.toNat : Int)])
      clear hb3
      go_simp
      refine hK.out _ _ trivial (fun _ => ?_)
      clear hK K I
      try simp only [Act.put, List.setIfInBounds_toArray, List.set_cons_zero, List.set_cons_succ]
      generalize X.heap.size = gz at *
      refine El.genH (fun X => Al w [(gb, #[.string eZ, .int .i64 14000000, .int .i64 0, .int .i64 0, .slice none 0 0])] X ∧ Row X gz 5 #[.int .u8 (f.toNat : Int), .int .u8 (s.toNat : Int), .int .u8 (t.toNat : Int)]) K1.out ?_
      clear K1
      rintro X I
      have I := Lib.hid I
      have hconv := conv_three f s t X gz I.out.2
      refine wpAnyH_ready (rs := [10]) (by kernel_rfl) (by simp) ?_
      refine AllReadyH.cons (o := ⟨some 114, _, _, _, _, none⟩) rfl (fun K hK => ?_) AllReadyH.nil
      go_simp
      refine hK.out _ _ trivial (fun _ => ?_)
      clear hK K hconv
      try simp only [Act.put, List.setIfInBounds_toArray, List.set_cons_zero, List.set_cons_succ]
      have hodd : v0.extract 0 n0 ++ ⟨#[32]⟩ ++ S [f, s, t] ++ ⟨#[10]⟩ = S (H0 ++ [32, f, s, t, 10]) := by
        rw [HX.out, show (⟨#[32]⟩ : ByteArray) = S [32] from rfl, show (⟨#[10]⟩ : ByteArray) = S [10] from rfl, S_add, S_add, S_add]; simp
      refine wpAnyH_take (i := 11) (oi := ⟨some 115, _, _, _, _, none⟩) (v := ?_) rfl (by kernel_rfl) (by kernel_rfl) (by kernel_rfl) (fun _ _ _ h => h) (Or.inl ⟨by rfl, ?_⟩) (by assumption) ?_
      case refine_2 => (intro wx hSx; (try dsimp only at hSx); go_simp; first | done | with_reducible rfl)
      try simp only [Act.put, List.setIfInBounds_toArray, List.set_cons_zero, List.set_cons_succ]
      refine wpAnyH_take (i := 12) (oi := ⟨some 116, _, _, _, _, none⟩) (v := ?_) rfl (by kernel_rfl) (by kernel_rfl) (by kernel_rfl) (fun _ _ _ h => h) (Or.inl ⟨by rfl, ?_⟩) (by assumption) ?_
      case refine_2 => (intro wx hSx; (try dsimp only at hSx); go_simp; first | done | with_reducible rfl)
      try simp only [Act.put, List.setIfInBounds_toArray, List.set_cons_zero, List.set_cons_succ]
      refine wpAnyH_take (i := 13) (oi := ⟨some 25, _, _, _, _, none⟩) (v := ?_) rfl (by kernel_rfl) (by kernel_rfl) (by kernel_rfl) (fun _ _ _ h => h) (Or.inl ⟨by rfl, ?_⟩) (by assumption) ?_
      case refine_2 => (intro wx hSx; (try dsimp only at hSx); go_simp; first | done | with_reducible rfl)
      try simp only [Act.put, List.setIfInBounds_toArray, List.set_cons_zero, List.set_cons_succ]
      refine wpAnyH_done (by kernel_rfl) ?_ _
      go_wp2_with fail
      go_meet
      exact ⟨rfl, Lib.hid I.out.1⟩
    case rest =>
      obtain ⟨rfl, I⟩ := hcut
      clear K HX hsz hz1 HN0
      obtain ⟨q0, q1, q2, q3, q4⟩ := row5 (I.out.row (gb, #[.string eZ, .int .i64 14000000, .int .i64 0, .int .i64 0, .slice none 0 0]) (by simp)).1
      go_wp2_with fail
      refine (HPO.out _ I.out.low).mono ?_
      rintro e w14 ⟨cb, tt, cor, del, A, n, cc, BB, mm, dd, j, rfl, hb, hgd⟩
      have hb2 : Below w14.heap.size w14 (w14.alloc (.cells (bulC cb tt cor del (.slice A n cc)) 24)) := (Below.refl _ _).alloc (Nat.le_refl _) _
      have hb3 := I.out.low.trans (hb.mono I.out.low.size)
      have J0 := Lib.hid (hb3.trans (hb2.mono hb3.size))
      have HGD := Lib.hid hgd
      clear hb hb2 hb3 HPO I hgd q0 q1 q2 q3 q4
      go_upto_region 16 with fail
      refine forget (fun V => Hid (Below w.heap.size w V)) J0 ?_
      clear J0
      generalize w14.heap.size = ge at *
      intro w15 J
      go_cut [29] from 125 to 146 (fun g X => ∃ bg : Bool, g = .bool bg ∧ Hid (bg = true ↔ good f s t) ∧ X = w15)
      case first =>
        by_cases a1 : (65 : Int) ≤ (t.toNat : Int)
        · by_cases a2 : (t.toNat : Int) ≤ 90
          · cases b1 : ((f.toNat : Int) == 67) <;> cases b2 : ((s.toNat : Int) == 67) <;> cases b3 : ((f.toNat : Int) == 82) <;> cases b4 : ((s.toNat : Int) == 82) <;> (go_wp2_with fail; go_meet; exact ⟨_, rfl, Lib.hid (by rw [good_iff]; simp [a1, a2, b1, b2, b3, b4]), rfl⟩)
          · go_wp2_with fail
            go_meet
            exact ⟨_, rfl, Lib.hid ⟨fun h => absurd h (by decide), fun h => by rw [good_iff] at h; omega⟩, rfl⟩
        · go_wp2_with fail
          go_meet
          exact ⟨_, rfl, Lib.hid ⟨fun h => absurd h (by decide), fun h => by rw [good_iff] at h; omega⟩, rfl⟩
      case rest =>
        obtain ⟨bg, rfl, HBG, e15⟩ := hcut
        subst e15
        cases c1 : ((f.toNat : Int) == 10)
        · cases c2 : ((s.toNat : Int) == 10)
          · cases c3 : ((t.toNat : Int) == 10)
            · have hj := HGD.out (ne_ten c1) (ne_ten c2) (ne_ten c3)
              cases bg
              · have hjz : (j == 0) = false := by
                  rw [beq_eq_false_iff_ne]
                  intro e
                  have := HBG.out.2 (hj.1 e)
                  cases this
                clear hj
                go_wp2_with fail
                refine (awake_from (w0 := w) _ (HE.out.under J.out) J.out).mono ?_
                rintro e wA ⟨rfl, hb⟩
                have HFin := Lib.hid hb
                clear hb
                go_wp2_with fail
                go_ret
                exact ⟨rfl, HFin.out⟩
              · obtain rfl : j = 0 := hj.2 (HBG.out.1 rfl)
                clear hj
                go_wp2_with fail
                refine (awake_from (w0 := w) _ (HE.out.under J.out) J.out).mono ?_
                rintro e wA ⟨rfl, hb⟩
                have HFin := Lib.hid hb
                clear hb
                go_wp2_with fail
                go_ret
                exact ⟨rfl, HFin.out⟩
            · go_wp2_with fail
              refine (awake_from (w0 := w) _ (HE.out.under J.out) J.out).mono ?_
              rintro e wA ⟨rfl, hb⟩
              have HFin := Lib.hid hb
              clear hb
              go_wp2_with fail
              go_ret
              exact ⟨rfl, HFin.out⟩
          · go_wp2_with fail
            refine (awake_from (w0 := w) _ (HE.out.under J.out) J.out).mono ?_
            rintro e wA ⟨rfl, hb⟩
            have HFin := Lib.hid hb
            clear hb
            go_wp2_with fail
            go_ret
            exact ⟨rfl, HFin.out⟩
        · go_wp2_with fail
          refine (awake_from (w0 := w) _ (HE.out.under J.out) J.out).mono ?_
          rintro e wA ⟨rfl, hb⟩
          have HFin := Lib.hid hb
          clear hb
          go_wp2_with fail
          go_ret
          exact ⟨rfl, HFin.out⟩
end Go.Proofs.YtfnlgfacadmjpaaGreatDoor.Bu
