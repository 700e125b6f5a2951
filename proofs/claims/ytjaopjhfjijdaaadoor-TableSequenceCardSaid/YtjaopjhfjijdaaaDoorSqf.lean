/- What a sequence stands for, in plain numbers. -/
import Derived.Test.YtjaopjhfjijdaaaDoorLx
namespace Go.Proofs.YtjaopjhfjijdaaaDoor

theorem fS_last {ss : List Sq} {c : Int} {C : List Int} (h : ∀ s ∈ ss, s.1 ≠ c) : fS (ss ++ [(c, C)]) c = some C := by
  unfold fS
  rw [List.find?_append]
  have h0 : ss.find? (fun s => s.1 == c) = none := List.find?_eq_none.2 fun s hs q => h s hs (by simpa using q)
  rw [h0]
  simp
theorem ans_run {v : Int} {es : List En} {ss : List Sq} {C : List Int} {x : Int} {L : List En} (h : Ans v es ss C x L) (hg : tbl v es ss = 0) (hl : C.length ≤ 20) :
    (x ≠ 0 ∧ Ev es ss (.run C) 0 0 [] (.er x) ∧ L = []) ∨ (x = 0 ∧ ∃ tk, Ev es ss (.run C) 0 0 [] (.ok tk L)) := by
  rcases h with ⟨a, -, -⟩ | ⟨-, b, -⟩ | ⟨-, -, c⟩
  · exact absurd hg a
  · omega
  · exact c
theorem seq_no {es : List En} {ss : List Sq} {c : Int} {C : List Int} {x y : Int} {L M : List En} (hg : tbl 1 es ss = 0) (hl : C.length ≤ 20) (hk : knd c = 2) (hf : fS ss c = some C)
    (h1 : Ans 1 es ss [c] x L) (h2 : Ans 1 es ss C y M) (hx : x ≠ 0) : y ≠ 0 ∨ x = 2 := by
  rcases ans_run h1 hg (by simp) with ⟨-, e1, -⟩ | ⟨q, -⟩
  case inr => exact absurd q hx
  rcases ans_run h2 hg hl with ⟨q, -⟩ | ⟨-, tk, e2⟩
  case inl => exact .inl q
  right
  cases e1 with
  | seqE _ _ _ _ _ b _ _ _ hf' _ e1 =>
    rw [hf] at hf'; injection hf' with hf'; subst hf'
    rcases e1.two _ _ _ _ e2 with q | q | ⟨_, _, q⟩ | ⟨_, _, q, _⟩
    · injection q
    · cases q
    · cases q
    · cases q
  | seq _ _ _ _ _ _ _ _ _ _ _ _ _ _ e1 => cases e1
  | _ => first | omega | simp_all
theorem seq_yes {es : List En} {ss : List Sq} {c : Int} {C : List Int} {y z : Int} {L M N : List En} (hg : tbl 1 es ss = 0) (hl : C.length ≤ 20) (hk : knd c = 2) (hf : fS ss c = some C) (h100 : ∃ e, fE es 100 = some e)
    (h1 : Ans 1 es ss [c] 0 L) (h2 : Ans 1 es ss C y M) (h3 : Ans 1 es ss [c, 100] z N) : y = 0 ∧ L = M ∧ (z = 0 ∧ N.length = L.length + 1 ∨ z = 2) := by
  rcases ans_run h1 hg (by simp) with ⟨q, -⟩ | ⟨-, tk, e1⟩
  case inl => exact absurd rfl q
  cases e1 with
  | seq _ _ _ _ _ b tk1 l1 _ k0 _ hf' _ e1 e2 =>
    rw [hf] at hf'; injection hf' with hf'; subst hf'
    cases e2
    obtain ⟨d, e, -, he, hd⟩ := e1.less _ _ rfl
    rw [List.nil_append] at he
    have e3 := hd 0 0 [] (by omega) (by omega) (by simp)
    rw [List.nil_append, ← he] at e3
    clear he hd
    obtain ⟨rfl, rfl⟩ := h2.one (.inr (.inr ⟨hg, hl, .inr ⟨rfl, _, e3⟩⟩))
    refine ⟨rfl, rfl, ?_⟩
    obtain ⟨x, hx⟩ := h100
    by_cases t1 : tk < 500
    · by_cases t2 : M.length < 60
      · obtain ⟨rfl, rfl⟩ := h3.one (.inr (.inr ⟨hg, by simp, .inr ⟨rfl, _, .seq _ _ _ _ _ _ _ _ _ k0 hk hf (by omega) e1 (.ent _ _ _ _ _ _ _ t1 (by decide) hx t2 (.nil _ _ _))⟩⟩))
        exact .inl ⟨rfl, by simp⟩
      · obtain ⟨rfl, rfl⟩ := h3.one (.inr (.inr ⟨hg, by simp, .inl ⟨by decide, .seq _ _ _ _ _ _ _ _ _ k0 hk hf (by omega) e1 (.entL _ _ _ _ _ _ t1 (by decide) hx (by omega)), rfl⟩⟩))
        exact .inr rfl
    · obtain ⟨rfl, rfl⟩ := h3.one (.inr (.inr ⟨hg, by simp, .inl ⟨by decide, .seq _ _ _ _ _ _ _ _ _ k0 hk hf (by omega) e1 (.lim _ _ _ _ _ (by omega)), rfl⟩⟩))
      exact .inr rfl
  | _ => omega
end Go.Proofs.YtjaopjhfjijdaaaDoor
