/- More facts on expansions in plain numbers: lists of entries alone; how many entries there may be. -/
import Derived.Test.YtjaopjhfjijdaaaDoorEv
namespace Go.Proofs.YtjaopjhfjijdaaaDoor

theorem Ev.le60 {es : List En} {ss : List Sq} {j : Jb} {n tk : Nat} {l : List En} {r : Res} (h : Ev es ss j n tk l r) : l.length ≤ 60 → ∀ tk' l', r = .ok tk' l' → l'.length ≤ 60 := by
  induction h with
  | nil => intro hl tk' l' e; injection e with _ e; subst e; exact hl
  | r0 => intro hl tk' l' e; injection e with _ e; subst e; exact hl
  | ent _ _ _ _ _ _ _ _ _ _ h4 _ ih => intro hl; exact ih (by simp only [List.length_append, List.length_singleton]; omega)
  | seq _ _ _ _ _ _ _ _ _ _ _ _ _ _ _ ih1 ih2 => intro hl; exact ih2 (ih1 hl _ _ rfl)
  | rep _ _ _ _ _ _ _ _ _ _ _ _ _ ih1 ih2 => intro hl; exact ih2 (ih1 hl _ _ rfl)
  | rS _ _ _ _ _ _ _ _ _ _ ih1 ih2 => intro hl; exact ih2 (ih1 hl _ _ rfl)
  | _ => intro _ _ _ e; cases e
/-- Codes of entries alone. -/
theorem Ev.list {es : List En} {ss : List Sq} (n : Nat) : ∀ (C : List Int) (tk : Nat) (l : List En), (∀ c ∈ C, knd c = 1 ∧ ∃ e, fE es c = some e) → tk + C.length ≤ 500 → l.length + C.length ≤ 60 →
    ∃ e : List En, e.length = C.length ∧ Ev es ss (.run C) n tk l (.ok (tk + C.length) (l ++ e)) := by
  intro C
  induction C with
  | nil => intro tk l _ _ _; exact ⟨[], rfl, by rw [List.append_nil]; exact .nil _ _ _⟩
  | cons c C ih =>
    intro tk l hC h1 h2
    simp only [List.length_cons] at h1 h2
    obtain ⟨hk, x, hx⟩ := hC c (List.mem_cons_self ..)
    obtain ⟨e, he, hv⟩ := ih (tk + 1) (l ++ [x]) (fun c' h' => hC c' (List.mem_cons_of_mem _ h')) (by omega) (by simp only [List.length_append, List.length_singleton]; omega)
    refine ⟨x :: e, by simp only [List.length_cons, he], ?_⟩
    rw [List.append_assoc, List.singleton_append, show tk + 1 + C.length = tk + (C.length + 1) by omega] at hv
    exact .ent _ _ _ _ _ _ _ (by omega) hk hx (by omega) hv
theorem Ev.reps_list {es : List En} {ss : List Sq} (n : Nat) (C : List Int) (hC : ∀ c ∈ C, knd c = 1 ∧ ∃ e, fE es c = some e) : ∀ (t tk : Nat) (l : List En), tk + t * C.length ≤ 500 → l.length + t * C.length ≤ 60 →
    ∃ e : List En, e.length = t * C.length ∧ Ev es ss (.rep C t) n tk l (.ok (tk + t * C.length) (l ++ e)) := by
  intro t
  induction t with
  | zero => intro tk l _ _; exact ⟨[], by simp, by rw [List.append_nil, Nat.zero_mul]; exact .r0 _ _ _ _⟩
  | succ t ih =>
    intro tk l h1 h2
    rw [Nat.succ_mul] at h1 h2
    obtain ⟨e, he, hv⟩ := Ev.list (es := es) (ss := ss) n C tk l hC (by omega) (by omega)
    obtain ⟨e', he', hv'⟩ := ih (tk + C.length) (l ++ e) (by omega) (by simp only [List.length_append]; omega)
    refine ⟨e ++ e', by rw [List.length_append, he, he', Nat.succ_mul]; omega, ?_⟩
    rw [List.append_assoc, show tk + C.length + t * C.length = tk + (t + 1) * C.length by rw [Nat.succ_mul]; omega] at hv'
    exact .rS _ _ _ _ _ _ _ _ hv hv'
theorem manyE_len (e : List En) : ∀ t, (manyE e t).length = t * e.length
  | 0 => by simp [manyE]
  | t + 1 => by rw [manyE, List.length_append, manyE_len e t, Nat.succ_mul]; omega
/-- A replication of codes of entries: all of them, or a limit. -/
theorem rep_code {x y : Nat} (x1 : 1 ≤ x) (x2 : x ≤ 20) (y1 : 1 ≤ y) (y2 : y ≤ 20) : knd (20000 + 100 * (x : Int) + (y : Int)) = 3 ∧ cnt (20000 + 100 * (x : Int) + (y : Int)) = x ∧ tms (20000 + 100 * (x : Int) + (y : Int)) = y := by
  refine ⟨knd_3.2 ⟨by omega, by omega, by omega, by omega⟩, ?_, ?_⟩
  · unfold cnt; omega
  · unfold tms; omega
theorem lim_yes {es : List En} {ss : List Sq} {C : List Int} {x y : Nat} (hx : C.length = x) (x1 : 1 ≤ x) (x2 : x ≤ 19) (y1 : 1 ≤ y) (y2 : y ≤ 20) (hxy : y * x ≤ 60) (hC : ∀ c ∈ C, knd c = 1 ∧ ∃ e, fE es c = some e) :
    ∃ tk L, L.length = y * x ∧ Ev es ss (.run ((20000 + 100 * (x : Int) + (y : Int)) :: C)) 0 0 [] (.ok tk L) := by
  obtain ⟨k1, k2, k3⟩ := rep_code x1 (by omega) y1 y2
  obtain ⟨e, he, hv⟩ := Ev.reps_list (es := es) (ss := ss) 0 C hC y 1 [] (by rw [hx]; omega) (by rw [hx]; simp only [List.length_nil]; omega)
  rw [List.nil_append] at hv
  refine ⟨1 + y * C.length, e, by rw [← hx]; exact he, ?_⟩
  exact Ev.rep _ _ 0 0 [] (1 + y * C.length) e _ (by omega) k1 (by omega) (by rw [k2, k3, List.take_of_length_le (by omega)]; exact hv) (by rw [k2, List.drop_of_length_le (by omega)]; exact .nil _ _ _)
theorem lim_no {es : List En} {ss : List Sq} {C : List Int} {x y : Nat} (hx : C.length = x) (x1 : 1 ≤ x) (x2 : x ≤ 19) (y1 : 1 ≤ y) (y2 : y ≤ 20) (hxy : 60 < y * x) (hC : ∀ c ∈ C, knd c = 1 ∧ ∃ e, fE es c = some e) :
    Ev es ss (.run ((20000 + 100 * (x : Int) + (y : Int)) :: C)) 0 0 [] (.er 2) := by
  obtain ⟨k1, k2, k3⟩ := rep_code x1 (by omega) y1 y2
  obtain ⟨r, hr⟩ := Ev.ex es ss (.rep C y) 0 1 []
  obtain ⟨e, he, hv⟩ := Ev.list (es := es) (ss := ss) 0 C 0 [] hC (by omega) (by simp only [List.length_nil]; omega)
  rcases Ev.reps hv y 0 1 [] r hr with q | q
  · subst q
    refine .repE _ _ _ _ _ _ (by omega) k1 (by omega) ?_
    rw [k2, k3, List.take_of_length_le (by omega)]
    exact hr
  · have := hr.le60 (by simp) _ _ q
    rw [List.nil_append, List.nil_append, manyE_len, he, hx] at this
    omega
end Go.Proofs.YtjaopjhfjijdaaaDoor
