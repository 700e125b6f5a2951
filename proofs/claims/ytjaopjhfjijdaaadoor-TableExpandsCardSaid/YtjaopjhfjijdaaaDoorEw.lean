/- Facts on expansions in plain numbers: each comes to an end; one from less comes to the same; codes one after the other; repetitions. More facts on expansions in plain numbers: lists of entries alone; how many entries there may be. -/
import Derived.Test.YtjaopjhfjijdaaaDoorTb
namespace Go.Proofs.YtjaopjhfjijdaaaDoor

/-- The codes that are taken never become fewer. -/
theorem Ev.mono {es : List En} {ss : List Sq} {j : Jb} {n tk : Nat} {l : List En} {r : Res} (h : Ev es ss j n tk l r) : ∀ tk' l', r = .ok tk' l' → tk ≤ tk' := by
  induction h with
  | nil => intro tk' l' e; injection e with e _; omega
  | r0 => intro tk' l' e; injection e with e _; omega
  | ent _ _ _ _ _ _ _ _ _ _ _ _ ih => intro tk' l' e; have := ih _ _ e; omega
  | seq _ _ _ _ _ _ _ _ _ _ _ _ _ _ _ ih1 ih2 => intro tk' l' e; have := ih1 _ _ rfl; have := ih2 _ _ e; omega
  | rep _ _ _ _ _ _ _ _ _ _ _ _ _ ih1 ih2 => intro tk' l' e; have := ih1 _ _ rfl; have := ih2 _ _ e; omega
  | rS _ _ _ _ _ _ _ _ _ _ ih1 ih2 => intro tk' l' e; have := ih1 _ _ rfl; have := ih2 _ _ e; omega
  | _ => intro _ _ e; cases e
/-- Every expansion comes to an end. -/
theorem Ev.some_run {es : List En} {ss : List Sq} (m : Nat) (ih : ∀ (cs : List Int) (n tk : Nat) (l : List En), 500 - tk < m → ∃ r, Ev es ss (.run cs) n tk l r) :
    ∀ (t : Nat) (cs : List Int) (n tk : Nat) (l : List En), 500 - tk < m → ∃ r, Ev es ss (.rep cs t) n tk l r := by
  intro t
  induction t with
  | zero => intro cs n tk l _; exact ⟨_, .r0 _ _ _ _⟩
  | succ t it =>
    intro cs n tk l h
    obtain ⟨r, hr⟩ := ih cs n tk l h
    cases r with
    | er x => exact ⟨_, .rE _ _ _ _ _ _ hr⟩
    | ok tk1 l1 =>
      have := hr.mono _ _ rfl
      obtain ⟨r', hr'⟩ := it cs n tk1 l1 (by omega)
      exact ⟨r', .rS _ _ _ _ _ _ _ _ hr hr'⟩
theorem Ev.ex_run (es : List En) (ss : List Sq) : ∀ (m : Nat) (cs : List Int) (n tk : Nat) (l : List En), 500 - tk < m → ∃ r, Ev es ss (.run cs) n tk l r := by
  intro m
  induction m with
  | zero => intro cs n tk l h; omega
  | succ m ih =>
    intro cs n tk l h
    cases cs with
    | nil => exact ⟨_, .nil _ _ _⟩
    | cons c cs =>
      by_cases h0 : tk < 500
      case neg => exact ⟨_, .lim _ _ _ _ _ (by omega)⟩
      rcases knd_all c with k | k | k | k
      · exact ⟨_, .bad _ _ _ _ _ h0 k⟩
      · cases hf : fE es c with
        | none => exact ⟨_, .entN _ _ _ _ _ h0 k hf⟩
        | some e =>
          by_cases hl : l.length < 60
          · obtain ⟨r, hr⟩ := ih cs n (tk + 1) (l ++ [e]) (by omega)
            exact ⟨r, .ent _ _ _ _ _ _ _ h0 k hf hl hr⟩
          · exact ⟨_, .entL _ _ _ _ _ _ h0 k hf (by omega)⟩
      · cases hf : fS ss c with
        | none => exact ⟨_, .seqN _ _ _ _ _ h0 k hf⟩
        | some b =>
          by_cases hn : n ≤ 20
          · obtain ⟨r, hr⟩ := ih b (n + 1) (tk + 1) l (by omega)
            cases r with
            | er x => exact ⟨_, .seqE _ _ _ _ _ _ _ h0 k hf hn hr⟩
            | ok tk1 l1 =>
              have := hr.mono _ _ rfl
              obtain ⟨r', hr'⟩ := ih cs n tk1 l1 (by omega)
              exact ⟨r', .seq _ _ _ _ _ _ _ _ _ h0 k hf hn hr hr'⟩
          · exact ⟨_, .seqL _ _ _ _ _ _ h0 k hf (by omega)⟩
      · by_cases hl : cnt c ≤ cs.length
        · obtain ⟨r, hr⟩ := Ev.some_run m ih (tms c) (cs.take (cnt c)) n (tk + 1) l (by omega)
          cases r with
          | er x => exact ⟨_, .repE _ _ _ _ _ _ h0 k hl hr⟩
          | ok tk1 l1 =>
            have := hr.mono _ _ rfl
            obtain ⟨r', hr'⟩ := ih (cs.drop (cnt c)) n tk1 l1 (by omega)
            exact ⟨r', .rep _ _ _ _ _ _ _ _ h0 k hl hr hr'⟩
        · exact ⟨_, .repS _ _ _ _ _ h0 k (by omega)⟩
theorem Ev.ex (es : List En) (ss : List Sq) (j : Jb) (n tk : Nat) (l : List En) : ∃ r, Ev es ss j n tk l r := by
  cases j with
  | run cs => exact Ev.ex_run es ss _ cs n tk l (Nat.lt_succ_self _)
  | rep cs t => exact Ev.some_run _ (Ev.ex_run es ss _) t cs n tk l (Nat.lt_succ_self _)
/-- An expansion that succeeds does so from less, too, and with the same entries. -/
theorem Ev.less {es : List En} {ss : List Sq} {j : Jb} {n tk : Nat} {l : List En} {r : Res} (h : Ev es ss j n tk l r) : ∀ tk' l', r = .ok tk' l' →
    ∃ d e, tk' = tk + d ∧ l' = l ++ e ∧ ∀ n2 tk2 l2, n2 ≤ n → tk2 ≤ tk → l2.length ≤ l.length → Ev es ss j n2 tk2 l2 (.ok (tk2 + d) (l2 ++ e)) := by
  induction h with
  | nil => intro tk' l' q; injection q with q1 q2; exact ⟨0, [], q1.symm, by rw [List.append_nil, q2], fun n2 tk2 l2 _ _ _ => by rw [List.append_nil]; exact .nil _ _ _⟩
  | r0 => intro tk' l' q; injection q with q1 q2; exact ⟨0, [], q1.symm, by rw [List.append_nil, q2], fun n2 tk2 l2 _ _ _ => by rw [List.append_nil]; exact .r0 _ _ _ _⟩
  | ent c cs n tk l x r h1 h2 h3 h4 h5 ih =>
    intro tk' l' q
    obtain ⟨d, e, a1, a2, a3⟩ := ih _ _ q
    refine ⟨d + 1, x :: e, by omega, by rw [a2]; simp, fun n2 tk2 l2 b1 b2 b3 => ?_⟩
    have := a3 n2 (tk2 + 1) (l2 ++ [x]) b1 (by omega) (by simp only [List.length_append, List.length_singleton]; omega)
    rw [List.append_assoc, List.singleton_append, show tk2 + 1 + d = tk2 + (d + 1) by omega] at this
    exact .ent _ _ _ _ _ _ _ (by omega) h2 h3 (by omega) this
  | seq c cs n tk l b tk1 l1 r h1 h2 h3 h4 h5 h6 ih1 ih2 =>
    intro tk' l' q
    obtain ⟨d, e, a1, a2, a3⟩ := ih1 _ _ rfl
    obtain ⟨d', e', c1, c2, c3⟩ := ih2 _ _ q
    refine ⟨1 + d + d', e ++ e', by omega, by rw [c2, a2, List.append_assoc], fun n2 tk2 l2 b1 b2 b3 => ?_⟩
    have k1 := a3 (n2 + 1) (tk2 + 1) l2 (by omega) (by omega) b3
    have k2 := c3 n2 (tk2 + 1 + d) (l2 ++ e) b1 (by omega) (by rw [a2]; simp only [List.length_append]; omega)
    rw [List.append_assoc, show tk2 + 1 + d + d' = tk2 + (1 + d + d') by omega] at k2
    exact .seq _ _ _ _ _ _ _ _ _ (by omega) h2 h3 (by omega) k1 k2
  | rep c cs n tk l tk1 l1 r h1 h2 h3 h5 h6 ih1 ih2 =>
    intro tk' l' q
    obtain ⟨d, e, a1, a2, a3⟩ := ih1 _ _ rfl
    obtain ⟨d', e', c1, c2, c3⟩ := ih2 _ _ q
    refine ⟨1 + d + d', e ++ e', by omega, by rw [c2, a2, List.append_assoc], fun n2 tk2 l2 b1 b2 b3 => ?_⟩
    have k1 := a3 n2 (tk2 + 1) l2 (by omega) (by omega) b3
    have k2 := c3 n2 (tk2 + 1 + d) (l2 ++ e) b1 (by omega) (by rw [a2]; simp only [List.length_append]; omega)
    rw [List.append_assoc, show tk2 + 1 + d + d' = tk2 + (1 + d + d') by omega] at k2
    exact .rep _ _ _ _ _ _ _ _ (by omega) h2 h3 k1 k2
  | rS cs t n tk l tk1 l1 r h5 h6 ih1 ih2 =>
    intro tk' l' q
    obtain ⟨d, e, a1, a2, a3⟩ := ih1 _ _ rfl
    obtain ⟨d', e', c1, c2, c3⟩ := ih2 _ _ q
    refine ⟨d + d', e ++ e', by omega, by rw [c2, a2, List.append_assoc], fun n2 tk2 l2 b1 b2 b3 => ?_⟩
    have k1 := a3 n2 tk2 l2 (by omega) (by omega) b3
    have k2 := c3 n2 (tk2 + d) (l2 ++ e) b1 (by omega) (by rw [a2]; simp only [List.length_append]; omega)
    rw [List.append_assoc, show tk2 + d + d' = tk2 + (d + d') by omega] at k2
    exact .rS _ _ _ _ _ _ _ _ k1 k2
  | _ => intro _ _ q; cases q
/-- Two expansions of the same, from different places: each limit apart, they come to the same. -/
theorem Ev.two {es : List En} {ss : List Sq} {j : Jb} {n tk : Nat} {l : List En} {r : Res} (h : Ev es ss j n tk l r) : ∀ (n2 tk2 : Nat) (l2 : List En) (r2 : Res), Ev es ss j n2 tk2 l2 r2 →
    r = .er 2 ∨ r2 = .er 2 ∨ (∃ x, r = .er x ∧ r2 = .er x) ∨ ∃ d e, r = .ok (tk + d) (l ++ e) ∧ r2 = .ok (tk2 + d) (l2 ++ e) := by
  induction h with
  | nil => intro n2 tk2 l2 r2 k; cases k; exact .inr (.inr (.inr ⟨0, [], by rw [List.append_nil]; rfl, by rw [List.append_nil]; rfl⟩))
  | r0 => intro n2 tk2 l2 r2 k; cases k; exact .inr (.inr (.inr ⟨0, [], by rw [List.append_nil]; rfl, by rw [List.append_nil]; rfl⟩))
  | lim => intro n2 tk2 l2 r2 k; exact .inl rfl
  | entL => intro n2 tk2 l2 r2 k; exact .inl rfl
  | seqL => intro n2 tk2 l2 r2 k; exact .inl rfl
  | bad _ _ _ _ _ _ hk => intro n2 tk2 l2 r2 k; cases k <;> first | exact .inr (.inl rfl) | exact .inr (.inr (.inl ⟨_, rfl, rfl⟩)) | omega
  | entN _ _ _ _ _ _ hk hf => intro n2 tk2 l2 r2 k; cases k <;> first | exact .inr (.inl rfl) | exact .inr (.inr (.inl ⟨_, rfl, rfl⟩)) | omega | simp_all
  | seqN _ _ _ _ _ _ hk hf => intro n2 tk2 l2 r2 k; cases k <;> first | exact .inr (.inl rfl) | exact .inr (.inr (.inl ⟨_, rfl, rfl⟩)) | omega | simp_all
  | repS _ _ _ _ _ _ hk hf => intro n2 tk2 l2 r2 k; cases k <;> first | exact .inr (.inl rfl) | exact .inr (.inr (.inl ⟨_, rfl, rfl⟩)) | omega
  | ent c cs n tk l x r h1 h2 h3 h4 h5 ih =>
    intro n2 tk2 l2 r2 k
    cases k with
    | ent _ _ _ _ _ x' _ g1 g2 g3 g4 g5 =>
      rw [h3] at g3; injection g3 with g3; subst g3
      rcases ih _ _ _ _ g5 with q | q | q | ⟨d, e, q1, q2⟩
      · exact .inl q
      · exact .inr (.inl q)
      · exact .inr (.inr (.inl q))
      · exact .inr (.inr (.inr ⟨d + 1, x :: e, by rw [q1, List.append_assoc, List.singleton_append, show tk + 1 + d = tk + (d + 1) by omega], by rw [q2, List.append_assoc, List.singleton_append, show tk2 + 1 + d = tk2 + (d + 1) by omega]⟩))
    | lim => exact .inr (.inl rfl)
    | entL => exact .inr (.inl rfl)
    | entN _ _ _ _ _ _ _ g3 => rw [h3] at g3; cases g3
    | _ => omega
  | seqE c cs n tk l b x h1 h2 h3 h4 h5 ih =>
    intro n2 tk2 l2 r2 k
    cases k with
    | seqE _ _ _ _ _ _ _ g1 g2 g3 g4 g5 =>
      rw [h3] at g3; injection g3 with g3; subst g3
      rcases ih _ _ _ _ g5 with q | q | q | ⟨d, e, q1, q2⟩
      · exact .inl q
      · exact .inr (.inl q)
      · exact .inr (.inr (.inl q))
      · cases q1
    | seq _ _ _ _ _ _ _ _ _ g1 g2 g3 g4 g5 =>
      rw [h3] at g3; injection g3 with g3; subst g3
      rcases ih _ _ _ _ g5 with q | q | ⟨_, _, q⟩ | ⟨d, e, q1, q2⟩
      · exact .inl q
      · cases q
      · cases q
      · cases q1
    | lim => exact .inr (.inl rfl)
    | seqL => exact .inr (.inl rfl)
    | seqN _ _ _ _ _ _ _ g3 => rw [h3] at g3; cases g3
    | _ => omega
  | seq c cs n tk l b tk1 l1 r h1 h2 h3 h4 h5 h6 ih1 ih2 =>
    intro n2 tk2 l2 r2 k
    cases k with
    | seqE _ _ _ _ _ _ _ g1 g2 g3 g4 g5 =>
      rw [h3] at g3; injection g3 with g3; subst g3
      rcases ih1 _ _ _ _ g5 with q | q | ⟨_, q, _⟩ | ⟨d, e, q1, q2⟩
      · cases q
      · exact .inr (.inl q)
      · cases q
      · cases q2
    | seq _ _ _ _ _ _ _ _ _ g1 g2 g3 g4 g5 g6 =>
      rw [h3] at g3; injection g3 with g3; subst g3
      rcases ih1 _ _ _ _ g5 with q | q | ⟨_, q, _⟩ | ⟨d, e, q1, q2⟩
      · cases q
      · cases q
      · cases q
      · injection q1 with q1 q1'; subst q1; subst q1'
        injection q2 with q2 q2'; subst q2; subst q2'
        rcases ih2 _ _ _ _ g6 with q | q | q | ⟨d', e', q1, q2⟩
        · exact .inl q
        · exact .inr (.inl q)
        · exact .inr (.inr (.inl q))
        · exact .inr (.inr (.inr ⟨1 + d + d', e ++ e', by rw [q1, List.append_assoc, show tk + 1 + d + d' = tk + (1 + d + d') by omega], by rw [q2, List.append_assoc, show tk2 + 1 + d + d' = tk2 + (1 + d + d') by omega]⟩))
    | lim => exact .inr (.inl rfl)
    | seqL => exact .inr (.inl rfl)
    | seqN _ _ _ _ _ _ _ g3 => rw [h3] at g3; cases g3
    | _ => omega
  | repE c cs n tk l x h1 h2 h3 h5 ih =>
    intro n2 tk2 l2 r2 k
    cases k with
    | repE _ _ _ _ _ _ g1 g2 g3 g5 =>
      rcases ih _ _ _ _ g5 with q | q | q | ⟨d, e, q1, q2⟩
      · exact .inl q
      · exact .inr (.inl q)
      · exact .inr (.inr (.inl q))
      · cases q1
    | rep _ _ _ _ _ _ _ _ g1 g2 g3 g5 =>
      rcases ih _ _ _ _ g5 with q | q | ⟨_, _, q⟩ | ⟨d, e, q1, q2⟩
      · exact .inl q
      · cases q
      · cases q
      · cases q1
    | lim => exact .inr (.inl rfl)
    | _ => omega
  | rep c cs n tk l tk1 l1 r h1 h2 h3 h5 h6 ih1 ih2 =>
    intro n2 tk2 l2 r2 k
    cases k with
    | repE _ _ _ _ _ _ g1 g2 g3 g5 =>
      rcases ih1 _ _ _ _ g5 with q | q | ⟨_, q, _⟩ | ⟨d, e, q1, q2⟩
      · cases q
      · exact .inr (.inl q)
      · cases q
      · cases q2
    | rep _ _ _ _ _ _ _ _ g1 g2 g3 g5 g6 =>
      rcases ih1 _ _ _ _ g5 with q | q | ⟨_, q, _⟩ | ⟨d, e, q1, q2⟩
      · cases q
      · cases q
      · cases q
      · injection q1 with q1 q1'; subst q1; subst q1'
        injection q2 with q2 q2'; subst q2; subst q2'
        rcases ih2 _ _ _ _ g6 with q | q | q | ⟨d', e', q1, q2⟩
        · exact .inl q
        · exact .inr (.inl q)
        · exact .inr (.inr (.inl q))
        · exact .inr (.inr (.inr ⟨1 + d + d', e ++ e', by rw [q1, List.append_assoc, show tk + 1 + d + d' = tk + (1 + d + d') by omega], by rw [q2, List.append_assoc, show tk2 + 1 + d + d' = tk2 + (1 + d + d') by omega]⟩))
    | lim => exact .inr (.inl rfl)
    | _ => omega
  | rE cs t n tk l x h5 ih =>
    intro n2 tk2 l2 r2 k
    cases k with
    | rE _ _ _ _ _ _ g5 => exact (ih _ _ _ _ g5).imp id (Or.imp id (Or.imp id (fun ⟨_, _, q, _⟩ => by cases q)))
    | rS _ _ _ _ _ _ _ _ g5 g6 =>
      rcases ih _ _ _ _ g5 with q | q | ⟨_, _, q⟩ | ⟨d, e, q1, q2⟩
      · exact .inl q
      · cases q
      · cases q
      · cases q1
  | rS cs t n tk l tk1 l1 r h5 h6 ih1 ih2 =>
    intro n2 tk2 l2 r2 k
    cases k with
    | rE _ _ _ _ _ _ g5 =>
      rcases ih1 _ _ _ _ g5 with q | q | ⟨_, q, _⟩ | ⟨d, e, q1, q2⟩
      · cases q
      · exact .inr (.inl q)
      · cases q
      · cases q2
    | rS _ _ _ _ _ _ _ _ g5 g6 =>
      rcases ih1 _ _ _ _ g5 with q | q | ⟨_, q, _⟩ | ⟨d, e, q1, q2⟩
      · cases q
      · cases q
      · cases q
      · injection q1 with q1 q1'; subst q1; subst q1'
        injection q2 with q2 q2'; subst q2; subst q2'
        rcases ih2 _ _ _ _ g6 with q | q | q | ⟨d', e', q1, q2⟩
        · exact .inl q
        · exact .inr (.inl q)
        · exact .inr (.inr (.inl q))
        · exact .inr (.inr (.inr ⟨d + d', e ++ e', by rw [q1, List.append_assoc, Nat.add_assoc], by rw [q2, List.append_assoc, Nat.add_assoc]⟩))
/-- Codes behind others: what is left when the first are done. -/
theorem Ev.behind {es : List En} {ss : List Sq} {j : Jb} {n tk : Nat} {l : List En} {r : Res} (h : Ev es ss j n tk l r) : ∀ (a b : List Int) (tk1 : Nat) (l1 : List En) (r2 : Res), j = .run a → r = .ok tk1 l1 → Ev es ss (.run (a ++ b)) n tk l r2 → Ev es ss (.run b) n tk1 l1 r2 := by
  induction h with
  | nil => intro a b tk1 l1 r2 q1 q2 k; injection q1 with q1; subst q1; injection q2 with q2 q3; subst q2; subst q3; exact k
  | ent c cs n tk l x r h1 h2 h3 h4 h5 ih =>
    intro a b tk1 l1 r2 q1 q2 k
    injection q1 with q1; subst q1
    rw [List.cons_append] at k
    cases k with
    | ent _ _ _ _ _ x' _ g1 g2 g3 g4 g5 => rw [h3] at g3; injection g3 with g3; subst g3; exact ih _ _ _ _ _ rfl q2 g5
    | entN _ _ _ _ _ _ _ g3 => rw [h3] at g3; cases g3
    | _ => omega
  | seq c cs n tk l d tk1 l1 r h1 h2 h3 h4 h5 h6 ih1 ih2 =>
    intro a b tk2 l2 r2 q1 q2 k
    injection q1 with q1; subst q1
    rw [List.cons_append] at k
    cases k with
    | seqE _ _ _ _ _ _ _ g1 g2 g3 g4 g5 => rw [h3] at g3; injection g3 with g3; subst g3; have := h5.one _ g5; cases this
    | seq _ _ _ _ _ _ _ _ _ g1 g2 g3 g4 g5 g6 =>
      rw [h3] at g3; injection g3 with g3; subst g3
      have := h5.one _ g5
      injection this with q3 q4; subst q3; subst q4
      exact ih2 _ _ _ _ _ rfl q2 g6
    | seqN _ _ _ _ _ _ _ g3 => rw [h3] at g3; cases g3
    | _ => omega
  | rep c cs n tk l tk1 l1 r h1 h2 h3 h5 h6 ih1 ih2 =>
    intro a b tk2 l2 r2 q1 q2 k
    injection q1 with q1; subst q1
    rw [List.cons_append] at k
    cases k with
    | repE _ _ _ _ _ _ g1 g2 g3 g5 => rw [List.take_append_of_le_length h3] at g5; have := h5.one _ g5; cases this
    | rep _ _ _ _ _ _ _ _ g1 g2 g3 g5 g6 =>
      rw [List.take_append_of_le_length h3] at g5
      rw [List.drop_append_of_le_length h3] at g6
      have := h5.one _ g5
      injection this with q3 q4; subst q3; subst q4
      exact ih2 _ _ _ _ _ rfl q2 g6
    | repS _ _ _ _ _ _ _ g3 => simp only [List.length_append] at g3; omega
    | _ => omega
  | r0 => intro a b tk1 l1 r2 q1; cases q1
  | rS => intro a b tk1 l1 r2 q1; cases q1
  | _ => intro a b tk1 l1 r2 q1 q2; cases q2
/-- Codes that end with a limit do so too with others behind them. -/
theorem Ev.stop {es : List En} {ss : List Sq} {j : Jb} {n tk : Nat} {l : List En} {r : Res} (h : Ev es ss j n tk l r) : ∀ (a b : List Int), j = .run a → r = .er 2 → Ev es ss (.run (a ++ b)) n tk l (.er 2) := by
  induction h with
  | lim => intro a b q1 _; injection q1 with q1; subst q1; exact .lim _ _ _ _ _ (by assumption)
  | entL _ _ _ _ _ _ h1 h2 h3 h4 => intro a b q1 _; injection q1 with q1; subst q1; exact .entL _ _ _ _ _ _ h1 h2 h3 h4
  | seqL _ _ _ _ _ _ h1 h2 h3 h4 => intro a b q1 _; injection q1 with q1; subst q1; exact .seqL _ _ _ _ _ _ h1 h2 h3 h4
  | ent _ _ _ _ _ _ _ h1 h2 h3 h4 _ ih => intro a b q1 q2; injection q1 with q1; subst q1; exact .ent _ _ _ _ _ _ _ h1 h2 h3 h4 (ih _ b rfl q2)
  | seqE _ _ _ _ _ _ _ h1 h2 h3 h4 h5 => intro a b q1 q2; injection q1 with q1; subst q1; injection q2 with q2; subst q2; exact .seqE _ _ _ _ _ _ _ h1 h2 h3 h4 h5
  | seq _ _ _ _ _ _ _ _ _ h1 h2 h3 h4 h5 _ _ ih => intro a b q1 q2; injection q1 with q1; subst q1; exact .seq _ _ _ _ _ _ _ _ _ h1 h2 h3 h4 h5 (ih _ b rfl q2)
  | repE _ _ _ _ _ _ h1 h2 h3 h5 =>
    intro a b q1 q2; injection q1 with q1; subst q1; injection q2 with q2; subst q2
    rw [List.cons_append]
    refine .repE _ _ _ _ _ _ h1 h2 (by simp only [List.length_append]; omega) ?_
    rw [List.take_append_of_le_length h3]; exact h5
  | rep _ _ _ _ _ _ _ _ h1 h2 h3 h5 _ _ ih =>
    intro a b q1 q2; injection q1 with q1; subst q1
    rw [List.cons_append]
    refine .rep _ _ _ _ _ _ _ _ h1 h2 (by simp only [List.length_append]; omega) (by rw [List.take_append_of_le_length h3]; exact h5) ?_
    · rw [List.drop_append_of_le_length h3]; exact ih _ b rfl q2
  | r0 => intro a b q1; cases q1
  | rE => intro a b q1; cases q1
  | rS => intro a b q1; cases q1
  | _ => intro a b q1 q2; first | cases q2 | (injection q2 with q2; omega)
/-- The codes c, t times. -/
def many (c : List Int) : Nat → List Int
  | 0 => []
  | t + 1 => c ++ many c t
def manyE (c : List En) : Nat → List En
  | 0 => []
  | t + 1 => c ++ manyE c t
/-- Codes that succeed, repeated from elsewhere: a limit, or each time the same. -/
theorem Ev.reps {es : List En} {ss : List Sq} {c : List Int} {d : Nat} {e : List En} (h : Ev es ss (.run c) 0 0 [] (.ok d e)) : ∀ (t n tk : Nat) (l : List En) (r : Res), Ev es ss (.rep c t) n tk l r → r = .er 2 ∨ r = .ok (tk + t * d) (l ++ manyE e t) := by
  intro t
  induction t with
  | zero => intro n tk l r k; cases k; right; simp [manyE]
  | succ t ih =>
    intro n tk l r k
    cases k with
    | rE _ _ _ _ _ _ g5 =>
      rcases h.two _ _ _ _ g5 with q | q | ⟨_, q, _⟩ | ⟨_, _, _, q⟩
      · cases q
      · exact .inl q
      · cases q
      · cases q
    | rS _ _ _ _ _ _ _ _ g5 g6 =>
      rcases h.two _ _ _ _ g5 with q | q | ⟨_, q, _⟩ | ⟨d', e', q1, q2⟩
      · cases q
      · cases q
      · cases q
      · injection q1 with q1 q3
        injection q2 with q2 q4
        rw [List.nil_append] at q3
        subst q3; subst q2; subst q4
        rcases ih _ _ _ _ g6 with q | q
        · exact .inl q
        · right; rw [q, List.append_assoc, Nat.succ_mul, show tk + d' + t * d = tk + (t * d + d) by omega]; rfl
theorem Ev.manys {es : List En} {ss : List Sq} {c : List Int} {d : Nat} {e : List En} (h : Ev es ss (.run c) 0 0 [] (.ok d e)) : ∀ (t n tk : Nat) (l : List En) (r : Res), Ev es ss (.run (many c t)) n tk l r → r = .er 2 ∨ r = .ok (tk + t * d) (l ++ manyE e t) := by
  intro t
  induction t with
  | zero => intro n tk l r k; cases k; right; simp [manyE]
  | succ t ih =>
    intro n tk l r k
    obtain ⟨r1, h1⟩ := Ev.ex es ss (.run c) n tk l
    rcases h.two _ _ _ _ h1 with q | q | ⟨_, q, _⟩ | ⟨d', e', q1, q2⟩
    · cases q
    · subst q
      left
      exact k.one _ (h1.stop _ _ rfl rfl)
    · cases q
    · injection q1 with q1 q3
      rw [List.nil_append] at q3
      subst q3; subst q2
      rcases ih _ _ _ _ (h1.behind _ _ _ _ _ rfl rfl k) with q | q
      · exact .inl q
      · right; rw [q, List.append_assoc, Nat.succ_mul, show tk + d' + t * d = tk + (t * d + d) by omega]; rfl
/-- A repetition that succeeds holds a first time that does. -/
theorem Ev.first {es : List En} {ss : List Sq} {c : List Int} {t n tk : Nat} {l l' : List En} {tk' : Nat} (h : Ev es ss (.rep c (t + 1)) n tk l (.ok tk' l')) : ∃ d e, Ev es ss (.run c) 0 0 [] (.ok d e) := by
  cases h with
  | rS _ _ _ _ _ tk1 l1 _ g5 g6 =>
    obtain ⟨d, e, -, -, k⟩ := g5.less _ _ rfl
    exact ⟨0 + d, [] ++ e, k 0 0 [] (Nat.zero_le _) (Nat.zero_le _) (Nat.zero_le _)⟩
end Go.Proofs.YtjaopjhfjijdaaaDoor
namespace Go.Proofs.YtjaopjhfjijdaaaDoor

theorem Ev.le60 {es : List En} {ss : List Sq} {j : Jb} {n tk : Nat} {l : List En} {r : Res} (h : Ev es ss j n tk l r) : l.length ≤ 60 → ∀ tk' l', r = .ok tk' l' → l'.length ≤ 60 := by
  induction h with
  | nil => intro hl tk' l' e; injection e with _ e; subst e; exact hl
  | r0 => intro hl tk' l' e; injection e with _ e; subst e; exact hl
  | ent _ _ _ _ _ _ _ _ _ _ h4 _ ih => intro hl; exact ih (by simp only [List.length_append, List.length_singleton]; omega)
  | seq _ _ _ _ _ _ _ _ _ _ _ _ _ _ _ ih1 ih2 => intro hl; exact ih2 (ih1 hl _ _ rfl)
  | rep _ _ _ _ _ _ _ _ _ _ _ _ _ ih1 ih2 => intro hl; exact ih2 (ih1 hl _ _ rfl)
  | rS _ _ _ _ _ _ _ _ _ _ ih1 ih2 => intro hl; exact ih2 (ih1 hl _ _ rfl)
  | _ => intro _ _ _ e; cases e
/-- Codes of entries alone. -/
theorem Ev.list {es : List En} {ss : List Sq} (n : Nat) : ∀ (C : List Int) (tk : Nat) (l : List En), (∀ c ∈ C, knd c = 1 ∧ ∃ e, fE es c = some e) → tk + C.length ≤ 500 → l.length + C.length ≤ 60 →
    ∃ e : List En, e.length = C.length ∧ Ev es ss (.run C) n tk l (.ok (tk + C.length) (l ++ e)) := by
  intro C
  induction C with
  | nil => intro tk l _ _ _; exact ⟨[], rfl, by rw [List.append_nil]; exact .nil _ _ _⟩
  | cons c C ih =>
    intro tk l hC h1 h2
    simp only [List.length_cons] at h1 h2
    obtain ⟨hk, x, hx⟩ := hC c (List.mem_cons_self ..)
    obtain ⟨e, he, hv⟩ := ih (tk + 1) (l ++ [x]) (fun c' h' => hC c' (List.mem_cons_of_mem _ h')) (by omega) (by simp only [List.length_append, List.length_singleton]; omega)
    refine ⟨x :: e, by simp only [List.length_cons, he], ?_⟩
    rw [List.append_assoc, List.singleton_append, show tk + 1 + C.length = tk + (C.length + 1) by omega] at hv
    exact .ent _ _ _ _ _ _ _ (by omega) hk hx (by omega) hv
theorem Ev.reps_list {es : List En} {ss : List Sq} (n : Nat) (C : List Int) (hC : ∀ c ∈ C, knd c = 1 ∧ ∃ e, fE es c = some e) : ∀ (t tk : Nat) (l : List En), tk + t * C.length ≤ 500 → l.length + t * C.length ≤ 60 →
    ∃ e : List En, e.length = t * C.length ∧ Ev es ss (.rep C t) n tk l (.ok (tk + t * C.length) (l ++ e)) := by
  intro t
  induction t with
  | zero => intro tk l _ _; exact ⟨[], by simp, by rw [List.append_nil, Nat.zero_mul]; exact .r0 _ _ _ _⟩
  | succ t ih =>
    intro tk l h1 h2
    rw [Nat.succ_mul] at h1 h2
    obtain ⟨e, he, hv⟩ := Ev.list (es := es) (ss := ss) n C tk l hC (by omega) (by omega)
    obtain ⟨e', he', hv'⟩ := ih (tk + C.length) (l ++ e) (by omega) (by simp only [List.length_append]; omega)
    refine ⟨e ++ e', by rw [List.length_append, he, he', Nat.succ_mul]; omega, ?_⟩
    rw [List.append_assoc, show tk + C.length + t * C.length = tk + (t + 1) * C.length by rw [Nat.succ_mul]; omega] at hv'
    exact .rS _ _ _ _ _ _ _ _ hv hv'
theorem manyE_len (e : List En) : ∀ t, (manyE e t).length = t * e.length
  | 0 => by simp [manyE]
  | t + 1 => by rw [manyE, List.length_append, manyE_len e t, Nat.succ_mul]; omega
/-- A replication of codes of entries: all of them, or a limit. -/
theorem rep_code {x y : Nat} (x1 : 1 ≤ x) (x2 : x ≤ 20) (y1 : 1 ≤ y) (y2 : y ≤ 20) : knd (20000 + 100 * (x : Int) + (y : Int)) = 3 ∧ cnt (20000 + 100 * (x : Int) + (y : Int)) = x ∧ tms (20000 + 100 * (x : Int) + (y : Int)) = y := by
  refine ⟨knd_3.2 ⟨by omega, by omega, by omega, by omega⟩, ?_, ?_⟩
  · unfold cnt; omega
  · unfold tms; omega
theorem lim_yes {es : List En} {ss : List Sq} {C : List Int} {x y : Nat} (hx : C.length = x) (x1 : 1 ≤ x) (x2 : x ≤ 19) (y1 : 1 ≤ y) (y2 : y ≤ 20) (hxy : y * x ≤ 60) (hC : ∀ c ∈ C, knd c = 1 ∧ ∃ e, fE es c = some e) :
    ∃ tk L, L.length = y * x ∧ Ev es ss (.run ((20000 + 100 * (x : Int) + (y : Int)) :: C)) 0 0 [] (.ok tk L) := by
  obtain ⟨k1, k2, k3⟩ := rep_code x1 (by omega) y1 y2
  obtain ⟨e, he, hv⟩ := Ev.reps_list (es := es) (ss := ss) 0 C hC y 1 [] (by rw [hx]; omega) (by rw [hx]; simp only [List.length_nil]; omega)
  rw [List.nil_append] at hv
  refine ⟨1 + y * C.length, e, by rw [← hx]; exact he, ?_⟩
  exact Ev.rep _ _ 0 0 [] (1 + y * C.length) e _ (by omega) k1 (by omega) (by rw [k2, k3, List.take_of_length_le (by omega)]; exact hv) (by rw [k2, List.drop_of_length_le (by omega)]; exact .nil _ _ _)
theorem lim_no {es : List En} {ss : List Sq} {C : List Int} {x y : Nat} (hx : C.length = x) (x1 : 1 ≤ x) (x2 : x ≤ 19) (y1 : 1 ≤ y) (y2 : y ≤ 20) (hxy : 60 < y * x) (hC : ∀ c ∈ C, knd c = 1 ∧ ∃ e, fE es c = some e) :
    Ev es ss (.run ((20000 + 100 * (x : Int) + (y : Int)) :: C)) 0 0 [] (.er 2) := by
  obtain ⟨k1, k2, k3⟩ := rep_code x1 (by omega) y1 y2
  obtain ⟨r, hr⟩ := Ev.ex es ss (.rep C y) 0 1 []
  obtain ⟨e, he, hv⟩ := Ev.list (es := es) (ss := ss) 0 C 0 [] hC (by omega) (by simp only [List.length_nil]; omega)
  rcases Ev.reps hv y 0 1 [] r hr with q | q
  · subst q
    refine .repE _ _ _ _ _ _ (by omega) k1 (by omega) ?_
    rw [k2, k3, List.take_of_length_le (by omega)]
    exact hr
  · have := hr.le60 (by simp) _ _ q
    rw [List.nil_append, List.nil_append, manyE_len, he, hx] at this
    omega
end Go.Proofs.YtjaopjhfjijdaaaDoor
