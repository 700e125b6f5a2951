/- The cells of a grid, the neighbours of its nodes, and how many edges lead from node to node, in plain numbers. -/
import Derived.Test.YtejoabaanclcbaaGreatQac
namespace Go.Proofs.YtejoabaanclcbaaGreat.Lat

theorem look_in {k i : Nat} : ∀ {l : List (Nat × Nat)}, look k l = some i → (k, i) ∈ l
  | [], h => by cases h
  | (x, j) :: r, h => by
    unfold look at h
    cases hb : Nat.beq x k
    · rw [hb] at h
      exact List.mem_cons_of_mem _ (look_in h)
    · rw [hb] at h
      injection h with h
      rw [Nat.eq_of_beq_eq_true hb, h]
      exact List.mem_cons_self
theorem ixOk_at {x o i : Nat} : ∀ {l : List (Nat × Nat)}, ixOk x l = true → (o, i) ∈ l → dg x o = i
  | [], _, h => by cases h
  | (o', i') :: r, h, hm => by
    unfold ixOk at h
    rw [Bool.and_eq_true] at h
    rcases List.mem_cons.1 hm with e | hm
    · injection e with e1 e2
      subst e1 e2
      exact Nat.eq_of_beq_eq_true h.1
    · exact ixOk_at h.2 hm
theorem idx_dg {n f a b : Nat} (h : frq n) (hf : f < 20) (hab : a + b ≤ n) : idx n f a b = dg (IX n) (off f a b) :=
  (ixOk_at (ix_all h) (look_in (ix_of h hf hab).1)).symm
theorem up_D {n f a b : Nat} (h : frq n) (hf : f < 20) (hab : a + b < n) : up n f a b = upD (IX n) f a b := by
  unfold up upD
  rw [idx_dg h hf (by omega), idx_dg h hf (by omega), idx_dg h hf (by omega)]
theorem dn_D {n f a b : Nat} (h : frq n) (hf : f < 20) (hab : a + b + 1 < n) : dn n f a b = dnD (IX n) f a b := by
  unfold dn dnD
  rw [idx_dg h hf (by omega), idx_dg h hf (by omega), idx_dg h hf (by omega)]
/-- The cells at a point, in a row, on a face, on all faces. -/
def ctri (n f a b : Nat) : List Tr := if a + b + 1 < n then [up n f a b, dn n f a b] else [up n f a b]
def crow (n f a k : Nat) : List Tr := (List.range k).flatMap (ctri n f a)
def cface (n f k : Nat) : List Tr := (List.range k).flatMap fun a => crow n f a (n - a)
def cls (n k : Nat) : List Tr := (List.range k).flatMap fun f => cface n f n
theorem crow_succ (n f a k : Nat) : crow n f a (k + 1) = crow n f a k ++ ctri n f a k := by simp [crow, List.range_succ]
theorem cface_succ (n f k : Nat) : cface n f (k + 1) = cface n f k ++ crow n f k (n - k) := by simp [cface, List.range_succ, List.flatMap_append]
theorem cls_succ (n k : Nat) : cls n (k + 1) = cls n k ++ cface n k n := by simp [cls, List.range_succ, List.flatMap_append]
theorem cls_mem {n : Nat} {t : Tr} : t ∈ cls n 20 ↔ ∃ f a b, f < 20 ∧ a + b < n ∧ (t = up n f a b ∨ (a + b + 1 < n ∧ t = dn n f a b)) := by
  unfold cls cface crow
  simp only [List.mem_flatMap, List.mem_range]
  constructor
  · rintro ⟨f, hf, a, ha, b, hb, h⟩
    refine ⟨f, a, b, hf, by omega, ?_⟩
    unfold ctri at h
    split at h
    · simp only [List.mem_cons, List.not_mem_nil, or_false] at h
      rcases h with h | h
      · exact .inl h
      · exact .inr ⟨by assumption, h⟩
    · simp only [List.mem_cons, List.not_mem_nil, or_false] at h
      exact .inl h
  · rintro ⟨f, a, b, hf, hab, h⟩
    refine ⟨f, hf, a, by omega, b, by omega, ?_⟩
    unfold ctri
    rcases h with h | ⟨h1, h⟩
    · split <;> simp [h]
    · rw [if_pos h1]; simp [h]
/-- The pairs of neighbours that a cell gives, as the program takes them. -/
def prs (t : Tr) : List (Nat × Nat) := [(t.1, t.2.1), (t.2.1, t.1), (t.2.1, t.2.2), (t.2.2, t.2.1), (t.2.2, t.1), (t.1, t.2.2)]
theorem nok_at {n a : Nat} (h : frq n) (ha : a < 10 * n * n + 2) : nok (IX n) (AD n) (WT n) (LV n) n a = true := allR_at (nn_all h) a ha
theorem nbs_pw {n a : Nat} (h : frq n) (ha : a < 10 * n * n + 2) : (nbs n a).Pairwise (· < ·) := by
  have := nok_at h ha; simp only [nok, Bool.and_eq_true] at this; exact asc_pw this.1.1.1.1
theorem nbs_in {n a b : Nat} (h : frq n) (ha : a < 10 * n * n + 2) (hb : b ∈ nbs n a) : b < 10 * n * n + 2 ∧ a ≠ b := by
  have := nok_at h ha; simp only [nok, Bool.and_eq_true] at this
  have := List.all_eq_true.1 this.1.1.1.2 b hb
  simp only [Bool.and_eq_true, Bool.not_eq_true'] at this
  refine ⟨by simpa using this.1, ?_⟩
  rintro rfl
  have h2 := this.2
  simp at h2
theorem nbl_len : ∀ k w, (nbl k w).length = k
  | 0, _ => rfl
  | k + 1, w => by simp [nbl, nbl_len k]
theorem nbs_len {n a : Nat} (h : frq n) (ha : a < 10 * n * n + 2) : (nbs n a).length ≤ 6 := by
  have := nok_at h ha; simp only [nok, Bool.and_eq_true] at this
  unfold nbs nbw
  rw [nbl_len]
  exact Nat.le_of_ble_eq_true this.1.1.2
theorem nbs_low {n a : Nat} (h : frq n) (ha : a < 10 * n * n + 2) (h0 : a ≠ 0) : ∃ b ∈ nbs n a, lev (LV n) b < lev (LV n) a := by
  have := nok_at h ha; simp only [nok, Bool.and_eq_true] at this
  have h2 := this.2
  unfold lowest at h2
  rw [Bool.or_eq_true] at h2
  rcases h2 with h2 | h2
  · exact absurd (Nat.eq_of_beq_eq_true h2) h0
  · obtain ⟨b, hb, hl⟩ := List.any_eq_true.1 h2
    exact ⟨b, hb, by simpa using hl⟩
theorem prs_nth {t : Tr} {i j : Nat} (hi : i < 3) (hj : j < 3) (hne : i ≠ j) : (nth t i, nth t j) ∈ prs t := by
  rcases (by omega : i = 0 ∨ i = 1 ∨ i = 2) with rfl | rfl | rfl <;> rcases (by omega : j = 0 ∨ j = 1 ∨ j = 2) with rfl | rfl | rfl <;> simp_all [nth, prs]
theorem wok_at {n a b : Nat} (h : frq n) : ∀ {l : List Nat} {c : Nat}, wok (IX n) n a l c = true → b ∈ l → ∃ t ∈ cls n 20, (a, b) ∈ prs t
  | [], _, _, hb => by cases hb
  | x :: r, c, hw, hb => by
    unfold wok at hw
    simp only [Bool.and_eq_true, Bool.not_eq_true'] at hw
    obtain ⟨⟨⟨⟨⟨⟨⟨h1, h2⟩, h3⟩, h4⟩, h5⟩, h6⟩, h7⟩, h8⟩ := hw
    rcases List.mem_cons.1 hb with rfl | hb
    · have h1 : c % 32 < 20 := by simpa using h1
      have h2 : c / 32 % 16 + c / 512 % 16 + c / 8192 % 2 < n := by simpa using h2
      have h5 : c / 16384 % 4 < 3 := by simpa using h5
      have h6 : c / 65536 % 4 < 3 := by simpa using h6
      have h7 : c / 16384 % 4 ≠ c / 65536 % 4 := fun e => by rw [e] at h7; simp at h7
      have h3 := Nat.eq_of_beq_eq_true h3
      have h4 := Nat.eq_of_beq_eq_true h4
      rcases (by omega : c / 8192 % 2 = 0 ∨ c / 8192 % 2 = 1) with e | e
      · rw [e] at h3 h4 h2
        have hu := up_D h h1 (show c / 32 % 16 + c / 512 % 16 < n by omega)
        refine ⟨up n (c % 32) (c / 32 % 16) (c / 512 % 16), cls_mem.2 ⟨_, _, _, h1, by omega, .inl rfl⟩, ?_⟩
        rw [hu]
        have := prs_nth (t := upD (IX n) (c % 32) (c / 32 % 16) (c / 512 % 16)) h5 h6 h7
        rw [← h3, ← h4]
        exact this
      · rw [e] at h3 h4 h2
        have hd := dn_D h h1 (show c / 32 % 16 + c / 512 % 16 + 1 < n by omega)
        refine ⟨dn n (c % 32) (c / 32 % 16) (c / 512 % 16), cls_mem.2 ⟨_, _, _, h1, by omega, .inr ⟨by omega, rfl⟩⟩, ?_⟩
        rw [hd]
        have := prs_nth (t := dnD (IX n) (c % 32) (c / 32 % 16) (c / 512 % 16)) h5 h6 h7
        rw [← h3, ← h4]
        exact this
    · exact wok_at h h8 hb
theorem cok_in {n : Nat} {t : Tr} (hc : cok (AD n) t = true) {a b : Nat} (hp : (a, b) ∈ prs t) : b ∈ nbs n a := by
  simp only [cok, Bool.and_eq_true] at hc
  obtain ⟨⟨⟨⟨⟨h1, h2⟩, h3⟩, h4⟩, h5⟩, h6⟩ := hc
  simp only [prs, List.mem_cons, List.not_mem_nil, or_false, Prod.mk.injEq] at hp
  rcases hp with ⟨rfl, rfl⟩ | ⟨rfl, rfl⟩ | ⟨rfl, rfl⟩ | ⟨rfl, rfl⟩ | ⟨rfl, rfl⟩ | ⟨rfl, rfl⟩
  · exact mb_mem h1
  · exact mb_mem h3
  · exact mb_mem h4
  · exact mb_mem h6
  · exact mb_mem h5
  · exact mb_mem h2
theorem cls_cok {n : Nat} (h : frq n) {t : Tr} (ht : t ∈ cls n 20) : cok (AD n) t = true := by
  obtain ⟨f, a, b, hf, hab, ht⟩ := cls_mem.1 ht
  have hc := allR_at (allR_at (allR_at (cc_all h) f hf) a (by omega)) b (by omega)
  rw [Bool.and_eq_true, Bool.or_eq_true] at hc
  rcases ht with rfl | ⟨h1, rfl⟩
  · rw [up_D h hf hab]; exact hc.1
  · rw [dn_D h hf h1]
    rcases hc.2 with e | e
    · have := Nat.le_of_ble_eq_true e; omega
    · exact e
/-- NEIGHBOURS ARE THE NODES OF ONE CELL. -/
theorem nbs_iff {n a b : Nat} (h : frq n) (ha : a < 10 * n * n + 2) : b ∈ nbs n a ↔ ∃ t ∈ cls n 20, (a, b) ∈ prs t := by
  constructor
  · intro hb
    have := nok_at h ha; simp only [nok, Bool.and_eq_true] at this
    exact wok_at h this.1.2 hb
  · rintro ⟨t, ht, hp⟩
    exact cok_in (cls_cok h ht) hp
theorem prs_sym {t : Tr} {a b : Nat} (h : (a, b) ∈ prs t) : (b, a) ∈ prs t := by
  simp only [prs, List.mem_cons, List.not_mem_nil, or_false, Prod.mk.injEq] at h ⊢
  rcases h with ⟨rfl, rfl⟩ | ⟨rfl, rfl⟩ | ⟨rfl, rfl⟩ | ⟨rfl, rfl⟩ | ⟨rfl, rfl⟩ | ⟨rfl, rfl⟩ <;> simp
theorem nbs_sym {n a b : Nat} (h : frq n) (ha : a < 10 * n * n + 2) (hb : b ∈ nbs n a) : a ∈ nbs n b := by
  obtain ⟨t, ht, hp⟩ := (nbs_iff h ha).1 hb
  exact (nbs_iff h (nbs_in h ha hb).1).2 ⟨t, ht, prs_sym hp⟩
theorem idx_lt2 {n f a b : Nat} (h : frq n) (hf : f < 20) (hab : a + b ≤ n) : idx n f a b < 10 * n * n + 2 := (ix_of h hf hab).2.1
/-- The nodes of a cell. -/
theorem cls_lt {n : Nat} (h : frq n) {t : Tr} (ht : t ∈ cls n 20) : t.1 < 10 * n * n + 2 ∧ t.2.1 < 10 * n * n + 2 ∧ t.2.2 < 10 * n * n + 2 := by
  obtain ⟨f, a, b, hf, hab, ht⟩ := cls_mem.1 ht
  rcases ht with rfl | ⟨h1, rfl⟩
  · exact ⟨idx_lt2 h hf (by omega), idx_lt2 h hf (by omega), idx_lt2 h hf (by omega)⟩
  · exact ⟨idx_lt2 h hf (by omega), idx_lt2 h hf (by omega), idx_lt2 h hf (by omega)⟩
theorem cls_ne {n : Nat} (h : frq n) {t : Tr} (ht : t ∈ cls n 20) : t.1 ≠ t.2.1 ∧ t.2.1 ≠ t.2.2 ∧ t.1 ≠ t.2.2 := by
  obtain ⟨h1, h2, h3⟩ := cls_lt h ht
  exact ⟨(nbs_in h h1 ((nbs_iff h h1).2 ⟨t, ht, by simp [prs]⟩)).2, (nbs_in h h2 ((nbs_iff h h2).2 ⟨t, ht, by simp [prs]⟩)).2, (nbs_in h h1 ((nbs_iff h h1).2 ⟨t, ht, by simp [prs]⟩)).2⟩
theorem crow_len {n f a : Nat} (ha : a < n) : ∀ k, k ≤ n - a → (crow n f a k).length = 2 * k - (if k = n - a then 1 else 0)
  | 0, h => by rw [if_neg (by omega)]; rfl
  | k + 1, h => by
    rw [crow_succ, List.length_append, crow_len ha k (by omega)]
    unfold ctri
    by_cases e : k + 1 = n - a
    · rw [if_neg (by omega), if_neg (by omega), if_pos e]; simp; omega
    · rw [if_neg (by omega), if_pos (by omega), if_neg e]; simp; omega
theorem cface_len {n f : Nat} : ∀ k, k ≤ n → (cface n f k).length + (n - k) * (n - k) = n * n
  | 0, _ => by simp [cface]
  | k + 1, h => by
    rw [cface_succ, List.length_append, crow_len (by omega) _ (Nat.le_refl _), if_pos rfl]
    have := cface_len (n := n) (f := f) k (by omega)
    obtain ⟨m, hm⟩ : ∃ m, n - k = m + 1 := ⟨n - k - 1, by omega⟩
    rw [hm] at this ⊢
    rw [show n - (k + 1) = m by omega]
    have e : (m + 1) * (m + 1) = m * m + 2 * m + 1 := by simp only [Nat.add_mul, Nat.mul_add]; omega
    omega
theorem cls_len (n : Nat) : ∀ k, (cls n k).length = k * (n * n)
  | 0 => by simp [cls]
  | k + 1 => by
    rw [cls_succ, List.length_append, cls_len n k]
    have := cface_len (n := n) (f := k) n (Nat.le_refl _)
    simp at this
    rw [this, Nat.add_mul]; omega

/-- x is reached from a by just so many edges. -/
def rch (n a : Nat) : Nat → Nat → Prop
  | 0, x => x = a
  | k + 1, x => ∃ y, rch n a k y ∧ x ∈ nbs n y
theorem rch_lt {n a : Nat} (h : frq n) (ha : a < 10 * n * n + 2) : ∀ {k x : Nat}, rch n a k x → x < 10 * n * n + 2
  | 0, x, hx => by rw [show x = a from hx]; exact ha
  | k + 1, x, ⟨y, hy, hx⟩ => (nbs_in h (rch_lt h ha hy) hx).1
theorem rch_add {n a x : Nat} {k : Nat} (h1 : rch n a k x) : ∀ {m : Nat} {y : Nat}, rch n x m y → rch n a (k + m) y
  | 0, y, hy => by rw [show y = x from hy]; exact h1
  | m + 1, y, ⟨z, hz, hy⟩ => ⟨z, rch_add h1 hz, hy⟩
theorem rch_head {n a b : Nat} (hb : b ∈ nbs n a) {k x : Nat} (h : rch n b k x) : rch n a (k + 1) x := by
  have : rch n a 1 b := ⟨a, rfl, hb⟩
  have := rch_add this h
  rw [Nat.add_comm] at this
  exact this
theorem rch_sym {n a : Nat} (h : frq n) (ha : a < 10 * n * n + 2) : ∀ {k x : Nat}, rch n a k x → rch n x k a
  | 0, x, hx => by rw [show x = a from hx]; exact rfl
  | k + 1, x, ⟨y, hy, hx⟩ => rch_head (nbs_sym h (rch_lt h ha hy) hx) (rch_sym h ha hy)
theorem rch_zero {n : Nat} (h : frq n) : ∀ (m a : Nat), lev (LV n) a < m → a < 10 * n * n + 2 → ∃ k, rch n a k 0
  | 0, _, hm, _ => by omega
  | m + 1, a, hm, ha => by
    by_cases h0 : a = 0
    · exact ⟨0, h0.symm⟩
    · obtain ⟨b, hb, hl⟩ := nbs_low h ha h0
      obtain ⟨k, hk⟩ := rch_zero h m b (by omega) (nbs_in h ha hb).1
      exact ⟨k + 1, rch_head hb hk⟩
theorem rch_all {n a b : Nat} (h : frq n) (ha : a < 10 * n * n + 2) (hb : b < 10 * n * n + 2) : ∃ k, rch n a k b := by
  obtain ⟨k, hk⟩ := rch_zero h _ a (Nat.lt_succ_self _) ha
  obtain ⟨m, hm⟩ := rch_zero h _ b (Nat.lt_succ_self _) hb
  exact ⟨k + m, rch_add hk (rch_sym h hb hm)⟩
/-- So many edges lead from a to x, and no fewer. -/
def Dist (n a x d : Nat) : Prop := rch n a d x ∧ ∀ k, k < d → ¬ rch n a k x
theorem least {p : Nat → Prop} : ∀ k, p k → ∃ d, p d ∧ ∀ j, j < d → ¬ p j := by
  intro k hk
  induction k using Nat.strongRecOn with
  | _ k ih =>
    by_cases h : ∃ j, j < k ∧ p j
    · obtain ⟨j, hj, hp⟩ := h
      exact ih j hj hp
    · exact ⟨k, hk, fun j hj hp => h ⟨j, hj, hp⟩⟩
theorem dist_all {n a b : Nat} (h : frq n) (ha : a < 10 * n * n + 2) (hb : b < 10 * n * n + 2) : ∃ d, Dist n a b d := by
  obtain ⟨k, hk⟩ := rch_all h ha hb
  exact least k hk
theorem dist_le {n a x d k : Nat} (h : Dist n a x d) (hk : rch n a k x) : d ≤ k := by
  rcases Nat.lt_or_ge k d with h1 | h1
  · exact absurd hk (h.2 k h1)
  · exact h1
theorem dist_one {n a x d e : Nat} (h : Dist n a x d) (h' : Dist n a x e) : d = e := Nat.le_antisymm (dist_le h h'.1) (dist_le h' h.1)
theorem dist_zero {n a b d : Nat} (h : Dist n a b d) : d = 0 ↔ a = b := by
  constructor
  · rintro rfl
    exact (show b = a from h.1).symm
  · rintro rfl
    have := dist_le h (show rch n a 0 a from rfl); omega
theorem dist_self (n a : Nat) : Dist n a a 0 := ⟨rfl, fun k hk => by omega⟩
theorem dist_near {n a b d : Nat} (h : frq n) (ha : a < 10 * n * n + 2) (hd : Dist n a b d) : d = 1 ↔ b ∈ nbs n a := by
  constructor
  · rintro rfl
    obtain ⟨y, hy, hb⟩ := hd.1
    rw [show y = a from hy] at hb
    exact hb
  · intro hb
    have h1 := dist_le hd (show rch n a 1 b from ⟨a, rfl, hb⟩)
    have h0 : d ≠ 0 := fun e => (nbs_in h ha hb).2 ((dist_zero hd).1 e)
    omega
theorem dist_step {n a r x k d : Nat} (hr : Dist n a r k) (hx : x ∈ nbs n r) (hd : Dist n a x d) : d ≤ k + 1 := dist_le hd ⟨r, hr.1, hx⟩
/-- Who is k + 1 edges away has a neighbour that is k edges away. -/
theorem dist_pred {n a x k : Nat} (hd : Dist n a x (k + 1)) : ∃ r, Dist n a r k ∧ x ∈ nbs n r := by
  obtain ⟨⟨r, hr, hx⟩, h2⟩ := hd
  exact ⟨r, ⟨hr, fun j hj h => h2 (j + 1) (by omega) ⟨r, h, hx⟩⟩, hx⟩
theorem dist_pre {n a x : Nat} : ∀ {d : Nat} (_ : Dist n a x d) (k : Nat), k ≤ d → ∃ y, Dist n a y k
  | 0, hd, k, hk => ⟨x, by rw [show k = 0 by omega]; exact hd⟩
  | d + 1, hd, k, hk => by
    by_cases e : k = d + 1
    · exact ⟨x, e ▸ hd⟩
    · obtain ⟨r, hr, _⟩ := dist_pred hd
      exact dist_pre hr k (by omega)
end Go.Proofs.YtejoabaanclcbaaGreat.Lat


