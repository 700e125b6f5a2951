/- Tables, codes and expansions in plain numbers. -/
import Derived.Test.YtjaopjhfjijdaaaDoorElt
namespace Go.Proofs.YtjaopjhfjijdaaaDoor

/-- An entry: code, element, width, scale, least; a sequence: code, codes. -/
abbrev En := Int × Int × Int × Int × Int
abbrev Sq := Int × List Int
/-- What a code is: 1 an entry, 2 a sequence, 3 a replication, 0 none. -/
def knd (c : Int) : Int := if 1 ≤ c ∧ c ≤ 9999 then 1 else if 10000 ≤ c ∧ c ≤ 19999 then 2 else if 20101 ≤ c ∧ c ≤ 22020 ∧ 1 ≤ c % 100 ∧ c % 100 ≤ 20 then 3 else 0
/-- How many codes a replication takes, and how often. -/
def cnt (c : Int) : Nat := (c / 100 - 200).toNat
def tms (c : Int) : Nat := (c % 100).toNat
theorem knd_1 {c : Int} : knd c = 1 ↔ 1 ≤ c ∧ c ≤ 9999 := by
  unfold knd
  by_cases a : 1 ≤ c ∧ c ≤ 9999
  · rw [if_pos a]; exact ⟨fun _ => a, fun _ => rfl⟩
  · rw [if_neg a]
    by_cases b : 10000 ≤ c ∧ c ≤ 19999
    · rw [if_pos b]; exact ⟨fun h => by omega, fun h => by omega⟩
    · rw [if_neg b]
      by_cases d : 20101 ≤ c ∧ c ≤ 22020 ∧ 1 ≤ c % 100 ∧ c % 100 ≤ 20
      · rw [if_pos d]; exact ⟨fun h => by omega, fun h => by omega⟩
      · rw [if_neg d]; exact ⟨fun h => by omega, fun h => by omega⟩
theorem knd_2 {c : Int} : knd c = 2 ↔ 10000 ≤ c ∧ c ≤ 19999 := by
  unfold knd
  by_cases a : 1 ≤ c ∧ c ≤ 9999
  · rw [if_pos a]; exact ⟨fun h => by omega, fun h => by omega⟩
  · rw [if_neg a]
    by_cases b : 10000 ≤ c ∧ c ≤ 19999
    · rw [if_pos b]; exact ⟨fun _ => b, fun _ => rfl⟩
    · rw [if_neg b]
      by_cases d : 20101 ≤ c ∧ c ≤ 22020 ∧ 1 ≤ c % 100 ∧ c % 100 ≤ 20
      · rw [if_pos d]; exact ⟨fun h => by omega, fun h => by omega⟩
      · rw [if_neg d]; exact ⟨fun h => by omega, fun h => by omega⟩
theorem knd_3 {c : Int} : knd c = 3 ↔ 20101 ≤ c ∧ c ≤ 22020 ∧ 1 ≤ c % 100 ∧ c % 100 ≤ 20 := by
  unfold knd
  by_cases a : 1 ≤ c ∧ c ≤ 9999
  · rw [if_pos a]; exact ⟨fun h => by omega, fun h => by omega⟩
  · rw [if_neg a]
    by_cases b : 10000 ≤ c ∧ c ≤ 19999
    · rw [if_pos b]; exact ⟨fun h => by omega, fun h => by omega⟩
    · rw [if_neg b]
      by_cases d : 20101 ≤ c ∧ c ≤ 22020 ∧ 1 ≤ c % 100 ∧ c % 100 ≤ 20
      · rw [if_pos d]; exact ⟨fun _ => d, fun _ => rfl⟩
      · rw [if_neg d]; exact ⟨fun h => by omega, fun h => absurd h d⟩
theorem knd_0 {c : Int} (h1 : ¬ (1 ≤ c ∧ c ≤ 9999)) (h2 : ¬ (10000 ≤ c ∧ c ≤ 19999)) (h3 : ¬ (20101 ≤ c ∧ c ≤ 22020 ∧ 1 ≤ c % 100 ∧ c % 100 ≤ 20)) : knd c = 0 := by
  unfold knd
  rw [if_neg h1, if_neg h2, if_neg h3]
theorem knd_all (c : Int) : knd c = 0 ∨ knd c = 1 ∨ knd c = 2 ∨ knd c = 3 := by
  unfold knd
  by_cases a : 1 ≤ c ∧ c ≤ 9999
  · rw [if_pos a]; omega
  · rw [if_neg a]
    by_cases b : 10000 ≤ c ∧ c ≤ 19999
    · rw [if_pos b]; omega
    · rw [if_neg b]
      by_cases d : 20101 ≤ c ∧ c ≤ 22020 ∧ 1 ≤ c % 100 ∧ c % 100 ≤ 20
      · rw [if_pos d]; omega
      · rw [if_neg d]; omega
theorem rep_facts {c : Int} (h : knd c = 3) : 1 ≤ cnt c ∧ cnt c ≤ 20 ∧ 1 ≤ tms c ∧ tms c ≤ 20 ∧ c.tdiv 100 - 200 = (cnt c : Int) ∧ c.tmod 100 = (tms c : Int) ∧ c / 100 - 200 = (cnt c : Int) ∧ c % 100 = (tms c : Int) := by
  have h := knd_3.1 h
  have e1 : c.tdiv 100 = c / 100 := Int.tdiv_eq_ediv_of_nonneg (by omega)
  have e2 : c.tmod 100 = c % 100 := Int.tmod_eq_emod_of_nonneg (by omega)
  rw [e1, e2]
  unfold cnt tms
  omega
/-- An entry is valid, its element aside. -/
def vE (e : En) : Prop := knd e.1 = 1 ∧ 2 ≤ e.2.2.1 ∧ e.2.2.1 ≤ 24 ∧ 1 ≤ e.2.2.2.1 ∧ e.2.2.2.1 ≤ 1000 ∧ -100000 ≤ e.2.2.2.2 ∧ e.2.2.2.2 ≤ 100000
instance (e : En) : Decidable (vE e) := inferInstanceAs (Decidable (_ ∧ _))
/-- An entry is valid. -/
def okE (e : En) : Prop := Elt.Ex e.2.1 ∧ vE e
instance (e : En) : Decidable (okE e) := inferInstanceAs (Decidable (_ ∧ _))
/-- The code of a sequence, or one of its codes, is not what it should be. -/
def badS (s : Sq) : Prop := knd s.1 ≠ 2 ∨ ∃ c ∈ s.2, knd c = 0
instance (s : Sq) : Decidable (badS s) := inferInstanceAs (Decidable (_ ∨ _))
/-- The first error of a table. -/
def tbl (v : Int) (es : List En) (ss : List Sq) : Int :=
  if ¬ (1 ≤ v ∧ v ≤ 99) then 1
  else if 40 < es.length ∨ 40 < ss.length ∨ ∃ s ∈ ss, 20 < s.2.length then 2
  else if ∃ e ∈ es, ¬ Elt.Ex e.2.1 then 4
  else if (∃ e ∈ es, ¬ vE e) ∨ ∃ s ∈ ss, badS s then 1
  else if ¬ (es.map (·.1)).Nodup ∨ ¬ (ss.map (·.1)).Nodup then 5
  else 0
theorem tbl_range {v : Int} {es : List En} {ss : List Sq} (h : ¬ (1 ≤ v ∧ v ≤ 99)) : tbl v es ss = 1 := if_pos h
theorem tbl_limit {v : Int} {es : List En} {ss : List Sq} (h : 1 ≤ v ∧ v ≤ 99) (h2 : 40 < es.length ∨ 40 < ss.length ∨ ∃ s ∈ ss, 20 < s.2.length) : tbl v es ss = 2 := by
  unfold tbl; rw [if_neg (not_not_intro h), if_pos h2]
theorem tbl_kind {v : Int} {es : List En} {ss : List Sq} (h : 1 ≤ v ∧ v ≤ 99) (h2 : ¬ (40 < es.length ∨ 40 < ss.length ∨ ∃ s ∈ ss, 20 < s.2.length)) (h3 : ∃ e ∈ es, ¬ Elt.Ex e.2.1) : tbl v es ss = 4 := by
  unfold tbl; rw [if_neg (not_not_intro h), if_neg h2, if_pos h3]
theorem tbl_range2 {v : Int} {es : List En} {ss : List Sq} (h : 1 ≤ v ∧ v ≤ 99) (h2 : ¬ (40 < es.length ∨ 40 < ss.length ∨ ∃ s ∈ ss, 20 < s.2.length)) (h3 : ¬ ∃ e ∈ es, ¬ Elt.Ex e.2.1) (h4 : (∃ e ∈ es, ¬ vE e) ∨ ∃ s ∈ ss, badS s) : tbl v es ss = 1 := by
  unfold tbl; rw [if_neg (not_not_intro h), if_neg h2, if_neg h3, if_pos h4]
theorem tbl_dup {v : Int} {es : List En} {ss : List Sq} (h : 1 ≤ v ∧ v ≤ 99) (h2 : ¬ (40 < es.length ∨ 40 < ss.length ∨ ∃ s ∈ ss, 20 < s.2.length)) (h3 : ¬ ∃ e ∈ es, ¬ Elt.Ex e.2.1) (h4 : ¬ ((∃ e ∈ es, ¬ vE e) ∨ ∃ s ∈ ss, badS s)) (h5 : ¬ (es.map (·.1)).Nodup ∨ ¬ (ss.map (·.1)).Nodup) : tbl v es ss = 5 := by
  unfold tbl; rw [if_neg (not_not_intro h), if_neg h2, if_neg h3, if_neg h4, if_pos h5]
theorem tbl_ok {v : Int} {es : List En} {ss : List Sq} (h : 1 ≤ v ∧ v ≤ 99) (h2 : ¬ (40 < es.length ∨ 40 < ss.length ∨ ∃ s ∈ ss, 20 < s.2.length)) (h3 : ¬ ∃ e ∈ es, ¬ Elt.Ex e.2.1) (h4 : ¬ ((∃ e ∈ es, ¬ vE e) ∨ ∃ s ∈ ss, badS s)) (h5 : ¬ (¬ (es.map (·.1)).Nodup ∨ ¬ (ss.map (·.1)).Nodup)) : tbl v es ss = 0 := by
  unfold tbl; rw [if_neg (not_not_intro h), if_neg h2, if_neg h3, if_neg h4, if_neg h5]
/-- What is known of a valid table. -/
structure Good (v : Int) (es : List En) (ss : List Sq) : Prop where
  ver : 1 ≤ v ∧ v ≤ 99
  el : es.length ≤ 40
  sl : ss.length ≤ 40
  cl : ∀ s ∈ ss, s.2.length ≤ 20
  ok : ∀ e ∈ es, okE e
  sq : ∀ s ∈ ss, ¬ badS s
  en : (es.map (·.1)).Nodup
  sn : (ss.map (·.1)).Nodup
theorem good_iff {v : Int} {es : List En} {ss : List Sq} : tbl v es ss = 0 ↔ Good v es ss := by
  constructor
  · intro h
    by_cases h1 : 1 ≤ v ∧ v ≤ 99
    case neg => rw [tbl_range h1] at h; cases h
    by_cases h2 : 40 < es.length ∨ 40 < ss.length ∨ ∃ s ∈ ss, 20 < s.2.length
    case pos => rw [tbl_limit h1 h2] at h; cases h
    by_cases h3 : ∃ e ∈ es, ¬ Elt.Ex e.2.1
    case pos => rw [tbl_kind h1 h2 h3] at h; cases h
    by_cases h4 : (∃ e ∈ es, ¬ vE e) ∨ ∃ s ∈ ss, badS s
    case pos => rw [tbl_range2 h1 h2 h3 h4] at h; cases h
    by_cases h5 : ¬ (es.map (·.1)).Nodup ∨ ¬ (ss.map (·.1)).Nodup
    case pos => rw [tbl_dup h1 h2 h3 h4 h5] at h; cases h
    exact ⟨h1, Nat.le_of_not_lt (fun q => h2 (.inl q)), Nat.le_of_not_lt (fun q => h2 (.inr (.inl q))), fun s hs => Nat.le_of_not_lt (fun q => h2 (.inr (.inr ⟨s, hs, q⟩))),
      fun e he => ⟨Decidable.byContradiction fun q => h3 ⟨e, he, q⟩, Decidable.byContradiction fun q => h4 (.inl ⟨e, he, q⟩)⟩, fun s hs q => h4 (.inr ⟨s, hs, q⟩),
      Decidable.byContradiction fun q => h5 (.inl q), Decidable.byContradiction fun q => h5 (.inr q)⟩
  · intro h
    refine tbl_ok h.ver (fun q => ?_) (fun ⟨e, he, q⟩ => q (h.ok e he).1) (fun q => ?_) (fun q => q.elim (fun q => q h.en) (fun q => q h.sn))
    · rcases q with q | q | ⟨s, hs, q⟩
      · have := h.el; omega
      · have := h.sl; omega
      · have := h.cl s hs; omega
    · rcases q with ⟨e, he, q⟩ | ⟨s, hs, q⟩
      · exact q (h.ok e he).2
      · exact h.sq s hs q
/-- The entry, the codes of the sequence with a code. -/
def fE (es : List En) (c : Int) : Option En := es.find? (fun e => e.1 == c)
def fS (ss : List Sq) (c : Int) : Option (List Int) := (ss.find? (fun s => s.1 == c)).map (·.2)
/-- What an expansion comes to: an error, or how many codes have been taken and the entries so far. -/
inductive Res where
  | er (e : Int)
  | ok (tk : Nat) (l : List En)
/-- What is to be done: to expand codes, or to do so several times. -/
inductive Jb where
  | run (cs : List Int)
  | rep (cs : List Int) (t : Nat)
/-- The expansion of codes: nested within n sequences, with tk codes taken and the entries l so far. -/
inductive Ev (es : List En) (ss : List Sq) : Jb → Nat → Nat → List En → Res → Prop where
  | nil (n tk : Nat) (l : List En) : Ev es ss (.run []) n tk l (.ok tk l)
  | lim (c : Int) (cs : List Int) (n tk : Nat) (l : List En) : 500 ≤ tk → Ev es ss (.run (c :: cs)) n tk l (.er 2)
  | bad (c : Int) (cs : List Int) (n tk : Nat) (l : List En) : tk < 500 → knd c = 0 → Ev es ss (.run (c :: cs)) n tk l (.er 1)
  | entN (c : Int) (cs : List Int) (n tk : Nat) (l : List En) : tk < 500 → knd c = 1 → fE es c = none → Ev es ss (.run (c :: cs)) n tk l (.er 6)
  | entL (c : Int) (cs : List Int) (n tk : Nat) (l : List En) (e : En) : tk < 500 → knd c = 1 → fE es c = some e → 60 ≤ l.length → Ev es ss (.run (c :: cs)) n tk l (.er 2)
  | ent (c : Int) (cs : List Int) (n tk : Nat) (l : List En) (e : En) (r : Res) : tk < 500 → knd c = 1 → fE es c = some e → l.length < 60 → Ev es ss (.run cs) n (tk + 1) (l ++ [e]) r → Ev es ss (.run (c :: cs)) n tk l r
  | seqN (c : Int) (cs : List Int) (n tk : Nat) (l : List En) : tk < 500 → knd c = 2 → fS ss c = none → Ev es ss (.run (c :: cs)) n tk l (.er 6)
  | seqL (c : Int) (cs : List Int) (n tk : Nat) (l : List En) (b : List Int) : tk < 500 → knd c = 2 → fS ss c = some b → 20 < n → Ev es ss (.run (c :: cs)) n tk l (.er 2)
  | seqE (c : Int) (cs : List Int) (n tk : Nat) (l : List En) (b : List Int) (x : Int) : tk < 500 → knd c = 2 → fS ss c = some b → n ≤ 20 → Ev es ss (.run b) (n + 1) (tk + 1) l (.er x) → Ev es ss (.run (c :: cs)) n tk l (.er x)
  | seq (c : Int) (cs : List Int) (n tk : Nat) (l : List En) (b : List Int) (tk1 : Nat) (l1 : List En) (r : Res) : tk < 500 → knd c = 2 → fS ss c = some b → n ≤ 20 → Ev es ss (.run b) (n + 1) (tk + 1) l (.ok tk1 l1) → Ev es ss (.run cs) n tk1 l1 r → Ev es ss (.run (c :: cs)) n tk l r
  | repS (c : Int) (cs : List Int) (n tk : Nat) (l : List En) : tk < 500 → knd c = 3 → cs.length < cnt c → Ev es ss (.run (c :: cs)) n tk l (.er 11)
  | repE (c : Int) (cs : List Int) (n tk : Nat) (l : List En) (x : Int) : tk < 500 → knd c = 3 → cnt c ≤ cs.length → Ev es ss (.rep (cs.take (cnt c)) (tms c)) n (tk + 1) l (.er x) → Ev es ss (.run (c :: cs)) n tk l (.er x)
  | rep (c : Int) (cs : List Int) (n tk : Nat) (l : List En) (tk1 : Nat) (l1 : List En) (r : Res) : tk < 500 → knd c = 3 → cnt c ≤ cs.length → Ev es ss (.rep (cs.take (cnt c)) (tms c)) n (tk + 1) l (.ok tk1 l1) → Ev es ss (.run (cs.drop (cnt c))) n tk1 l1 r → Ev es ss (.run (c :: cs)) n tk l r
  | r0 (cs : List Int) (n tk : Nat) (l : List En) : Ev es ss (.rep cs 0) n tk l (.ok tk l)
  | rE (cs : List Int) (t n tk : Nat) (l : List En) (x : Int) : Ev es ss (.run cs) n tk l (.er x) → Ev es ss (.rep cs (t + 1)) n tk l (.er x)
  | rS (cs : List Int) (t n tk : Nat) (l : List En) (tk1 : Nat) (l1 : List En) (r : Res) : Ev es ss (.run cs) n tk l (.ok tk1 l1) → Ev es ss (.rep cs t) n tk1 l1 r → Ev es ss (.rep cs (t + 1)) n tk l r
/-- An expansion comes to one end. -/
theorem Ev.one {es : List En} {ss : List Sq} {j : Jb} {n tk : Nat} {l : List En} {r : Res} (h : Ev es ss j n tk l r) : ∀ r', Ev es ss j n tk l r' → r = r' := by
  induction h with
  | nil => intro r' h'; cases h'; rfl
  | lim => intro r' h'; cases h' <;> first | rfl | omega
  | bad => intro r' h'; cases h' <;> first | rfl | omega
  | entN => intro r' h'; cases h' <;> first | rfl | omega | simp_all
  | entL => intro r' h'; cases h' <;> first | rfl | omega | simp_all
  | ent _ _ _ _ _ _ _ _ _ hf _ _ ih =>
    intro r' h'
    cases h' with
    | ent _ _ _ _ _ _ _ _ _ hf' _ h1 => rw [hf] at hf'; injection hf' with hf'; subst hf'; exact ih _ h1
    | entN _ _ _ _ _ _ _ hf' => rw [hf] at hf'; cases hf'
    | _ => omega
  | seqN => intro r' h'; cases h' <;> first | rfl | omega | simp_all
  | seqL => intro r' h'; cases h' <;> first | rfl | omega | simp_all
  | seqE _ _ _ _ _ _ _ _ _ hf _ _ ih =>
    intro r' h'
    cases h' with
    | seqE _ _ _ _ _ _ _ _ _ hf' _ h1 => rw [hf] at hf'; injection hf' with hf'; subst hf'; exact ih _ h1
    | seq _ _ _ _ _ _ _ _ _ _ _ hf' _ h1 => rw [hf] at hf'; injection hf' with hf'; subst hf'; cases ih _ h1
    | seqN _ _ _ _ _ _ _ hf' => rw [hf] at hf'; cases hf'
    | _ => omega
  | seq _ _ _ _ _ _ _ _ _ _ _ hf _ _ _ ih1 ih2 =>
    intro r' h'
    cases h' with
    | seqE _ _ _ _ _ _ _ _ _ hf' _ h1 => rw [hf] at hf'; injection hf' with hf'; subst hf'; cases ih1 _ h1
    | seq _ _ _ _ _ _ _ _ _ _ _ hf' _ h1 h2 => rw [hf] at hf'; injection hf' with hf'; subst hf'; cases ih1 _ h1; exact ih2 _ h2
    | seqN _ _ _ _ _ _ _ hf' => rw [hf] at hf'; cases hf'
    | _ => omega
  | repS => intro r' h'; cases h' <;> first | rfl | omega
  | repE _ _ _ _ _ _ _ _ _ _ ih =>
    intro r' h'
    cases h' with
    | repE _ _ _ _ _ _ _ _ _ h1 => exact ih _ h1
    | rep _ _ _ _ _ _ _ _ _ _ _ h1 => cases ih _ h1
    | _ => omega
  | rep _ _ _ _ _ _ _ _ _ _ _ _ _ ih1 ih2 =>
    intro r' h'
    cases h' with
    | repE _ _ _ _ _ _ _ _ _ h1 => cases ih1 _ h1
    | rep _ _ _ _ _ _ _ _ _ _ _ h1 h2 => cases ih1 _ h1; exact ih2 _ h2
    | _ => omega
  | r0 => intro r' h'; cases h'; rfl
  | rE _ _ _ _ _ _ _ ih =>
    intro r' h'
    cases h' with
    | rE => rename_i h1; exact ih _ h1
    | rS => rename_i h1 h2; cases ih _ h1
  | rS _ _ _ _ _ _ _ _ _ _ ih1 ih2 =>
    intro r' h'
    cases h' with
    | rE => rename_i h1; cases ih1 _ h1
    | rS => rename_i h1 h2; cases ih1 _ h1; exact ih2 _ h2
/-- The expansion reckoned, with so many steps. -/
def exf (es : List En) (ss : List Sq) : Nat → Jb → Nat → Nat → List En → Option Res
  | 0, _, _, _, _ => none
  | _ + 1, .run [], _, tk, l => some (.ok tk l)
  | f + 1, .run (c :: cs), n, tk, l =>
    if 500 ≤ tk then some (.er 2)
    else if knd c = 0 then some (.er 1)
    else if knd c = 1 then
      match fE es c with
      | none => some (.er 6)
      | some e => if 60 ≤ l.length then some (.er 2) else exf es ss f (.run cs) n (tk + 1) (l ++ [e])
    else if knd c = 2 then
      match fS ss c with
      | none => some (.er 6)
      | some b => if 20 < n then some (.er 2) else
        match exf es ss f (.run b) (n + 1) (tk + 1) l with
        | none => none
        | some (.er x) => some (.er x)
        | some (.ok tk1 l1) => exf es ss f (.run cs) n tk1 l1
    else if cs.length < cnt c then some (.er 11)
    else
      match exf es ss f (.rep (cs.take (cnt c)) (tms c)) n (tk + 1) l with
      | none => none
      | some (.er x) => some (.er x)
      | some (.ok tk1 l1) => exf es ss f (.run (cs.drop (cnt c))) n tk1 l1
  | _ + 1, .rep _ 0, _, tk, l => some (.ok tk l)
  | f + 1, .rep cs (t + 1), n, tk, l =>
    match exf es ss f (.run cs) n tk l with
    | none => none
    | some (.er x) => some (.er x)
    | some (.ok tk1 l1) => exf es ss f (.rep cs t) n tk1 l1
theorem exf_ev (es : List En) (ss : List Sq) : ∀ (f : Nat) (j : Jb) (n tk : Nat) (l : List En) (r : Res), exf es ss f j n tk l = some r → Ev es ss j n tk l r := by
  intro f
  induction f with
  | zero => intro j n tk l r h; simp [exf] at h
  | succ f ih =>
    intro j n tk l r h
    match j, h with
    | .run [], h => simp [exf] at h; subst h; exact .nil _ _ _
    | .rep cs 0, h => simp [exf] at h; subst h; exact .r0 _ _ _ _
    | .rep cs (t + 1), h =>
      unfold exf at h
      cases h1 : exf es ss f (.run cs) n tk l with
      | none => rw [h1] at h; cases h
      | some r1 =>
        rw [h1] at h
        cases r1 with
        | er x => injection h with h; subst h; exact .rE _ _ _ _ _ _ (ih _ _ _ _ _ h1)
        | ok tk1 l1 => exact .rS _ _ _ _ _ _ _ _ (ih _ _ _ _ _ h1) (ih _ _ _ _ _ h)
    | .run (c :: cs), h =>
      unfold exf at h
      by_cases h0 : 500 ≤ tk
      · rw [if_pos h0] at h; injection h with h; subst h; exact .lim _ _ _ _ _ h0
      · rw [if_neg h0] at h
        have h0 : tk < 500 := by omega
        by_cases k0 : knd c = 0
        · rw [if_pos k0] at h; injection h with h; subst h; exact .bad _ _ _ _ _ h0 k0
        · rw [if_neg k0] at h
          by_cases k1 : knd c = 1
          · rw [if_pos k1] at h
            cases hf : fE es c with
            | none => rw [hf] at h; injection h with h; subst h; exact .entN _ _ _ _ _ h0 k1 hf
            | some e =>
              rw [hf] at h
              simp only at h
              by_cases hl : 60 ≤ l.length
              · rw [if_pos hl] at h; injection h with h; subst h; exact .entL _ _ _ _ _ _ h0 k1 hf hl
              · rw [if_neg hl] at h; exact .ent _ _ _ _ _ _ _ h0 k1 hf (by omega) (ih _ _ _ _ _ h)
          · rw [if_neg k1] at h
            by_cases k2 : knd c = 2
            · rw [if_pos k2] at h
              cases hf : fS ss c with
              | none => rw [hf] at h; injection h with h; subst h; exact .seqN _ _ _ _ _ h0 k2 hf
              | some b =>
                rw [hf] at h
                simp only at h
                by_cases hl : 20 < n
                · rw [if_pos hl] at h; injection h with h; subst h; exact .seqL _ _ _ _ _ _ h0 k2 hf hl
                · rw [if_neg hl] at h
                  cases h1 : exf es ss f (.run b) (n + 1) (tk + 1) l with
                  | none => rw [h1] at h; cases h
                  | some r1 =>
                    rw [h1] at h
                    cases r1 with
                    | er x => injection h with h; subst h; exact .seqE _ _ _ _ _ _ _ h0 k2 hf (by omega) (ih _ _ _ _ _ h1)
                    | ok tk1 l1 => exact .seq _ _ _ _ _ _ _ _ _ h0 k2 hf (by omega) (ih _ _ _ _ _ h1) (ih _ _ _ _ _ h)
            · rw [if_neg k2] at h
              have k3 : knd c = 3 := by have := knd_all c; omega
              by_cases hl : cs.length < cnt c
              · rw [if_pos hl] at h; injection h with h; subst h; exact .repS _ _ _ _ _ h0 k3 hl
              · rw [if_neg hl] at h
                cases h1 : exf es ss f (.rep (cs.take (cnt c)) (tms c)) n (tk + 1) l with
                | none => rw [h1] at h; cases h
                | some r1 =>
                  rw [h1] at h
                  cases r1 with
                  | er x => injection h with h; subst h; exact .repE _ _ _ _ _ _ h0 k3 (by omega) (ih _ _ _ _ _ h1)
                  | ok tk1 l1 => exact .rep _ _ _ _ _ _ _ _ h0 k3 (by omega) (ih _ _ _ _ _ h1) (ih _ _ _ _ _ h)
end Go.Proofs.YtjaopjhfjijdaaaDoor
