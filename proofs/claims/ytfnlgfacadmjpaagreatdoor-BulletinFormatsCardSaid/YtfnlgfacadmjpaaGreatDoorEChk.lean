/- The elements in plain numbers: letters, ranges, digits; when a reading is valid; lists of readings; the texts of readings. Contracts of Describe and check of the program. Contracts of check and ByLetter of the program. -/
import Derived.Lib.AtoiTie
import Derived.Lib.AtoiAllCases
import Derived.Lib.ItoaMem
import Derived.Test.YtfnlgfacadmjpaaGreatDoorSrc
namespace Go.Proofs.YtfnlgfacadmjpaaGreatDoor.El.Elt

def lets : List UInt8 := [80, 84, 68, 69, 78, 65, 66, 70, 71, 74, 75]
def leas : List Int := [8000, 1800, 1800, -1000, -1000, 900, 2000, 2400, 2000, 4400, 2000]
def mosts : List Int := [11000, 3300, 3300, 1000, 1000, 1700, 3200, 3400, 3000, 6200, 2900]
def digss : List Nat := [5, 4, 4, 4, 4, 4, 4, 4, 4, 4, 4]
/-- The letter, the least, the greatest value, the number of digits of the element c. -/
def lt (c : Int) : UInt8 := lets.getD (c - 1).toNat 0
def lo (c : Int) : Int := leas.getD (c - 1).toNat 0
def hi (c : Int) : Int := mosts.getD (c - 1).toNat 0
def dg (c : Int) : Nat := digss.getD (c - 1).toNat 0
/-- A code that exists. -/
def Ex (c : Int) : Prop := 1 ≤ c ∧ c ≤ 11
instance (c : Int) : Decidable (Ex c) := inferInstanceAs (Decidable (_ ∧ _))
theorem row_facts : ∀ k : Fin 11, (-1000 ≤ leas.getD k 0 ∧ mosts.getD k 0 ≤ 11000 ∧ leas.getD k 0 < mosts.getD k 0 ∧ mosts.getD k 0 < 10 ^ digss.getD k 0 ∧ -(leas.getD k 0) < 10 ^ digss.getD k 0) ∧ 4 ≤ digss.getD k 0 ∧ digss.getD k 0 ≤ 5 ∧ (leas.getD k 0 < 0 → digss.getD k 0 = 4) ∧ 65 ≤ (lets.getD k 0).toNat ∧ (lets.getD k 0).toNat ≤ 84 := by decide +kernel
theorem facts {c : Int} (h : Ex c) : (-1000 ≤ lo c ∧ hi c ≤ 11000 ∧ lo c < hi c ∧ hi c < 10 ^ dg c ∧ -(lo c) < 10 ^ dg c) ∧ 4 ≤ dg c ∧ dg c ≤ 5 ∧ (lo c < 0 → dg c = 4) ∧ 65 ≤ (lt c).toNat ∧ (lt c).toNat ≤ 84 :=
  row_facts ⟨(c - 1).toNat, by unfold Ex at h; omega⟩
theorem lets_ne : ∀ i j : Fin 11, i ≠ j → lets.getD i 0 ≠ lets.getD j 0 := by decide +kernel
theorem lt_inj {c d : Int} (hc : Ex c) (hd : Ex d) (h : lt c = lt d) : c = d := by
  unfold Ex at hc hd
  by_cases e : (c - 1).toNat = (d - 1).toNat
  · omega
  · exact absurd h (lets_ne ⟨(c - 1).toNat, by omega⟩ ⟨(d - 1).toNat, by omega⟩ (fun h => e (congrArg Fin.val h)))
/-- A valid reading. -/
def Val (c v : Int) : Prop := Ex c ∧ lo c ≤ v ∧ v ≤ hi c
instance (c v : Int) : Decidable (Val c v) := inferInstanceAs (Decidable (_ ∧ _))
/-- The error of a reading: 0, 1 (range), 4 (kind). -/
def chk (c v : Int) : Int := if Ex c then if lo c ≤ v ∧ v ≤ hi c then 0 else 1 else 4
theorem chk_ok {c v : Int} (h : Val c v) : chk c v = 0 := by unfold chk; rw [if_pos h.1, if_pos h.2]
theorem chk_cases (c v : Int) : (Val c v ∧ chk c v = 0) ∨ (Ex c ∧ ¬ (lo c ≤ v ∧ v ≤ hi c) ∧ chk c v = 1) ∨ (¬ Ex c ∧ chk c v = 4) := by
  unfold chk
  by_cases h : Ex c
  · by_cases h2 : lo c ≤ v ∧ v ≤ hi c
    · exact .inl ⟨⟨h, h2⟩, by rw [if_pos h, if_pos h2]⟩
    · exact .inr (.inl ⟨h, h2, by rw [if_pos h, if_neg h2]⟩)
  · exact .inr (.inr ⟨h, by rw [if_neg h]⟩)
theorem val_of {c v : Int} (h : chk c v = 0) : Val c v := by
  rcases chk_cases c v with h1 | h1 | h1
  · exact h1.1
  · omega
  · omega
theorem val_bd {c v : Int} (h : Val c v) : v.natAbs < 10 ^ dg c ∧ -1000 ≤ v ∧ v ≤ 11000 ∧ (v < 0 → dg c = 4) := by
  obtain ⟨h1, h2, h3⟩ := h
  obtain ⟨⟨f1, f2, f3, f4, f5⟩, f6, f7, f8, f9⟩ := facts h1
  have e : ((10 ^ dg c : Nat) : Int) = (10 : Int) ^ dg c := by norm_cast
  exact ⟨by omega, by omega, by omega, fun h => f8 (by omega)⟩

/-! Lists of readings. -/
abbrev R := Int × Int
/-- Ascending codes, each less than the next. -/
def Asc (L : List R) : Prop := ∀ j, ∀ h : j + 1 < L.length, (L[j]).1 < (L[j + 1]).1
open Classical in
/-- The first error of a list: 4, 1, 8, or 0. -/
noncomputable def vld (L : List R) : Int := if ∃ r ∈ L, chk r.1 r.2 = 4 then 4 else if ∃ r ∈ L, chk r.1 r.2 = 1 then 1 else if Asc L then 0 else 8
theorem vld_kind {L : List R} (h : ∃ r ∈ L, chk r.1 r.2 = 4) : vld L = 4 := by unfold vld; rw [if_pos h]
theorem vld_range {L : List R} (h0 : ¬ ∃ r ∈ L, chk r.1 r.2 = 4) (h : ∃ r ∈ L, chk r.1 r.2 = 1) : vld L = 1 := by unfold vld; rw [if_neg h0, if_pos h]
theorem vld_sort {L : List R} (h0 : ¬ ∃ r ∈ L, chk r.1 r.2 = 4) (h1 : ¬ ∃ r ∈ L, chk r.1 r.2 = 1) : (Asc L → vld L = 0) ∧ (¬ Asc L → vld L = 8) := by
  unfold vld; rw [if_neg h0, if_neg h1]
  exact ⟨fun h => by rw [if_pos h], fun h => by rw [if_neg h]⟩
theorem vld_good {L : List R} (h : ∀ r ∈ L, Val r.1 r.2) : (Asc L → vld L = 0) ∧ (¬ Asc L → vld L = 8) :=
  vld_sort (fun ⟨r, hr, e⟩ => by rw [chk_ok (h r hr)] at e; omega) (fun ⟨r, hr, e⟩ => by rw [chk_ok (h r hr)] at e; omega)
/-- The readings that are left. -/
def wout (L : List R) (C : List Int) : List R := L.filter fun r => !C.contains r.1
/-- The value of the first reading of an element. -/
def fnd (L : List R) (c : Int) : Option Int := (L.find? fun r => r.1 == c).map (·.2)

/-! Texts. -/
def b10 (x : Nat) : UInt8 := UInt8.ofNat (48 + x)
/-- The last k digits of n. -/
def ddn (n : Nat) : Nat → List UInt8
  | 0 => []
  | k + 1 => b10 (n / 10 ^ k % 10) :: ddn n k
theorem ddn_len (n : Nat) : ∀ k, (ddn n k).length = k
  | 0 => rfl
  | k + 1 => by rw [ddn, List.length_cons, ddn_len n k]
theorem ddn_snoc (n : Nat) : ∀ k, ddn n (k + 1) = ddn (n / 10) k ++ [b10 (n % 10)]
  | 0 => by simp [ddn]
  | k + 1 => by
    rw [ddn, ddn_snoc n k]
    simp only [ddn, List.cons_append]
    rw [Nat.div_div_eq_div_mul, show 10 * 10 ^ k = 10 ^ (k + 1) by rw [Nat.pow_succ]; omega]
theorem ddn_zero : ∀ k, ddn 0 k = List.replicate k 48
  | 0 => rfl
  | k + 1 => by rw [ddn, ddn_zero k, List.replicate_succ]; simp [b10]
/-- Leading zeros and the digits. -/
theorem pad : ∀ (k n : Nat), n < 10 ^ (k + 1) → (Lib.decDigits n).length ≤ k + 1 ∧ List.replicate (k + 1 - (Lib.decDigits n).length) 48 ++ Lib.decDigits n = ddn n (k + 1)
  | k, n, h => by
    by_cases h10 : n < 10
    · rw [Lib.decDigits_one h10, ddn_snoc, show n / 10 = 0 by omega, show n % 10 = n by omega, ddn_zero]
      exact ⟨by simp, by simp [b10]⟩
    · match k, h with
      | 0, h => simp at h; omega
      | k + 1, h =>
        have h2 : n / 10 < 10 ^ (k + 1) := by rw [Nat.pow_succ] at h; omega
        obtain ⟨i1, i2⟩ := pad k (n / 10) h2
        have e : Lib.decDigits n = Lib.decDigits (n / 10) ++ [b10 (n % 10)] := by rw [Lib.decDigits, dif_neg h10]; rfl
        rw [e, ddn_snoc, ← i2, List.length_append]
        refine ⟨by simp; omega, ?_⟩
        rw [show k + 1 + 1 - ((Lib.decDigits (n / 10)).length + [b10 (n % 10)].length) = k + 1 - (Lib.decDigits (n / 10)).length by simp, List.append_assoc]
theorem b10_toNat {d : Nat} (h : d < 10) : (b10 d).toNat = 48 + d := by
  unfold b10; rw [UInt8.toNat_ofNat']; omega
theorem ddn_dec (n : Nat) : ∀ (k acc : Nat), Lib.decFrom acc (ddn n k) = some (acc * 10 ^ k + n % 10 ^ k)
  | 0, acc => by simp [ddn, Lib.decFrom, Nat.mod_one]
  | k + 1, acc => by
    have hd : n / 10 ^ k % 10 < 10 := Nat.mod_lt _ (by omega)
    rw [ddn, Lib.decFrom, show Lib.digitVal (b10 (n / 10 ^ k % 10)) = some (n / 10 ^ k % 10) by
      unfold Lib.digitVal; rw [b10_toNat hd, if_pos (by omega)]; congr 1; omega]
    simp only
    rw [ddn_dec n k, Nat.pow_succ, Nat.mod_mul]
    congr 1
    rw [Nat.add_mul, Nat.mul_assoc acc 10, Nat.mul_comm 10 (10 ^ k), Nat.mul_comm (n / 10 ^ k % 10)]
    omega
theorem ddn_num {n k : Nat} (h : n < 10 ^ (k + 1)) : Lib.decNat (ddn n (k + 1)) = some n := by
  unfold Lib.decNat
  rw [if_neg (by rw [ddn]; simp), ddn_dec, Nat.mod_eq_of_lt h]; simp
/-- A sign if there is one. -/
def sg (v : Int) : List UInt8 := if v < 0 then [45] else []
/-- The text behind the letter; the text. -/
def tail (c v : Int) : List UInt8 := sg v ++ ddn v.natAbs (dg c)
def txt (c v : Int) : List UInt8 := lt c :: tail c v
theorem tail_len {c v : Int} (h : Val c v) : 4 ≤ (tail c v).length ∧ (tail c v).length ≤ 5 := by
  obtain ⟨-, f6, f7, f8, f9⟩ := facts h.1
  obtain ⟨-, -, -, b⟩ := val_bd h
  unfold tail sg
  rw [List.length_append, ddn_len]
  split
  · have := b (by assumption); simp; omega
  · simp; omega
theorem ddn_head {n k : Nat} : ∃ d r, d < 10 ∧ ddn n (k + 1) = b10 d :: r := ⟨n / 10 ^ k % 10, ddn n k, Nat.mod_lt _ (by omega), rfl⟩
theorem tail_num {c v : Int} (h : Val c v) : Lib.atoiAll (tail c v) = .ok v := by
  obtain ⟨l1, l2⟩ := tail_len h
  rw [Lib.atoiAll_short _ (by omega)]
  obtain ⟨b1, -, -, -⟩ := val_bd h
  obtain ⟨-, f6, f7, -⟩ := facts h.1
  obtain ⟨k, hk⟩ : ∃ k, dg c = k + 1 := ⟨dg c - 1, by omega⟩
  have e : Lib.atoi (tail c v) = some v := by
    unfold tail
    rw [hk] at b1 ⊢
    by_cases hv : v < 0
    · rw [show sg v = [45] from if_pos hv]
      show (Lib.decNat (ddn v.natAbs (k + 1))).map (fun m : Nat => -(m : Int)) = _
      rw [ddn_num b1]
      simp; omega
    · rw [show sg v = [] from if_neg hv, List.nil_append]
      obtain ⟨d, r, hd, he⟩ := @ddn_head v.natAbs k
      have hn := ddn_num b1
      rw [he] at hn ⊢
      have hb : ∀ x : UInt8, x.toNat < 48 → (b10 d == x) = false := fun x hx => beq_eq_false_iff_ne.2 (fun e => by have := b10_toNat hd; rw [e] at this; omega)
      show (if (b10 d == 45) = true then (Lib.decNat r).map (fun m : Nat => -(m : Int)) else if (b10 d == 43) = true then (Lib.decNat r).map (fun m : Nat => (m : Int)) else (Lib.decNat (b10 d :: r)).map (fun m : Nat => (m : Int))) = _
      rw [if_neg (by rw [hb 45 (by decide)]; decide), if_neg (by rw [hb 43 (by decide)]; decide), hn]
      simp; omega
  rw [e]; rfl
end Go.Proofs.YtfnlgfacadmjpaaGreatDoor.El.Elt
namespace Go.Proofs.YtfnlgfacadmjpaaGreatDoor.El
open Go.RowKit

/-- The table of the elements as it lies in memory. -/
def Tab (w : World) : Prop := ∀ k : Nat, k < 11 → w.cell? ⟨1, k * 3, none⟩ = some (.int .i64 (Elt.leas.getD k 0)) ∧ w.cell? ⟨1, k * 3 + 1, none⟩ = some (.int .i64 (Elt.mosts.getD k 0)) ∧ w.cell? ⟨1, k * 3 + 2, none⟩ = some (.int .i64 (Elt.digss.getD k 0 : Nat))
theorem Tab.pos {w : World} (h : Tab w) : 1 < w.heap.size := by
  have h0 := (h 0 (by omega)).1
  exact World.block_lt_of_cell? w _ h0
theorem Tab.under {w w' : World} (h : Tab w) (hb : Below w.heap.size w w') : Tab w' := fun k hk => by
  obtain ⟨a, b, c⟩ := h k hk
  exact ⟨(hb.cell (p := ⟨1, k * 3, none⟩) h.pos).trans a, (hb.cell (p := ⟨1, k * 3 + 1, none⟩) h.pos).trans b, (hb.cell (p := ⟨1, k * 3 + 2, none⟩) h.pos).trans c⟩
theorem eleven {c : Int} (h : Elt.Ex c) : c = 1 ∨ c = 2 ∨ c = 3 ∨ c = 4 ∨ c = 5 ∨ c = 6 ∨ c = 7 ∨ c = 8 ∨ c = 9 ∨ c = 10 ∨ c = 11 := by unfold Elt.Ex at h; omega
/-- The row of an element as a value. -/
abbrev infoV (c : Int) : Value := .agg #[.string (S [Elt.lt c]), .int .i64 (Elt.lo c), .int .i64 (Elt.hi c), .int .i64 (Elt.dg c)]
set_option maxHeartbeats 1000000 in
theorem describe_no (c : Int) (w : World) (h : ¬ Elt.Ex c) :
    Calls Tryz.prog 110 #[.int .i64 c] w fun e w' => e = .returned (.tuple #[.agg #[.string ⟨#[]⟩, .int .i64 0, .int .i64 0, .int .i64 0], .int .i64 4]) ∧ Below w.heap.size w w' := by
  by_cases h1 : c < 1
  · clear h
    go_enter Tryz.func110, Tryz.ntmps110
    go_wp2
    exact bodyPost_ret (v := .tuple #[.agg #[.string ⟨#[]⟩, .int .i64 0, .int .i64 0, .int .i64 0], .int .i64 4]) (by simp [results, Tryz.results110, go_sem]) rfl ⟨rfl, (Below.refl _ _).alloc (Nat.le_refl _) _⟩
  · have h2 : 11 < c := by unfold Elt.Ex at h; omega
    clear h
    go_enter Tryz.func110, Tryz.ntmps110
    go_wp2
    exact bodyPost_ret (v := .tuple #[.agg #[.string ⟨#[]⟩, .int .i64 0, .int .i64 0, .int .i64 0], .int .i64 4]) (by simp [results, Tryz.results110, go_sem]) rfl ⟨rfl, (Below.refl _ _).alloc (Nat.le_refl _) _⟩
theorem conv_let : ∀ k : Fin 11, ∀ w, (convert 5 9 (.int .u8 ((Elt.lets.getD k 0).toNat : Nat))).run Tryz.prog w = .ok (.string (S [Elt.lets.getD k 0])) w := by
  intro ⟨k, hk⟩ w
  rcases (by omega : k = 0 ∨ k = 1 ∨ k = 2 ∨ k = 3 ∨ k = 4 ∨ k = 5 ∨ k = 6 ∨ k = 7 ∨ k = 8 ∨ k = 9 ∨ k = 10) with rfl | rfl | rfl | rfl | rfl | rfl | rfl | rfl | rfl | rfl | rfl <;> kernel_rfl
theorem index_let : ∀ k : Fin 11, ∀ h : k.val < ByteArray.size ⟨#[80, 84, 68, 69, 78, 65, 66, 70, 71, 74, 75]⟩, (⟨#[80, 84, 68, 69, 78, 65, 66, 70, 71, 74, 75]⟩ : ByteArray)[k.val]'h = Elt.lets.getD k 0 := by
  intro ⟨k, hk⟩ h
  rcases (by omega : k = 0 ∨ k = 1 ∨ k = 2 ∨ k = 3 ∨ k = 4 ∨ k = 5 ∨ k = 6 ∨ k = 7 ∨ k = 8 ∨ k = 9 ∨ k = 10) with rfl | rfl | rfl | rfl | rfl | rfl | rfl | rfl | rfl | rfl | rfl <;> rfl
set_option maxHeartbeats 4000000 in
theorem describe_yes (c : Int) (w : World) (h : Elt.Ex c) (hT : Tab w) :
    Calls Tryz.prog 110 #[.int .i64 c] w fun e w' => e = .returned (.tuple #[infoV c, .int .i64 0]) ∧ Below w.heap.size w w' := by
  have hp := hT.pos
  obtain ⟨k, rfl, hk⟩ : ∃ k : Nat, c = (k : Int) + 1 ∧ k < 11 := ⟨(c - 1).toNat, by unfold Elt.Ex at h; omega, by unfold Elt.Ex at h; omega⟩
  obtain ⟨t0, t1, t2⟩ := hT k hk
  have ek : ((k : Int) + 1 - 1).toNat = k := by omega
  have x1 : IntKind.i64.wrap (k : Int) = (k : Int) := IntWalk.i64_in _ (by omega)
  have e1 := conv_let ⟨k, hk⟩
  have e2 := index_let ⟨k, hk⟩
  have E0 : Hid (Elt.lt ((k : Int) + 1) = Elt.lets.getD k 0 ∧ Elt.lo ((k : Int) + 1) = Elt.leas.getD k 0 ∧ Elt.hi ((k : Int) + 1) = Elt.mosts.getD k 0 ∧ Elt.dg ((k : Int) + 1) = Elt.digss.getD k 0) := Lib.hid (by unfold Elt.lt Elt.lo Elt.hi Elt.dg; rw [ek]; exact ⟨rfl, rfl, rfl, rfl⟩)
  simp only at e1 e2
  generalize Elt.lets.getD k 0 = lb at *
  generalize Elt.leas.getD k 0 = a at *
  generalize Elt.mosts.getD k 0 = m at *
  generalize Elt.digss.getD k 0 = d at *
  have k0 : (0 : Int) ≤ (k : Int) := by omega
  have k1 : (k : Int) < 11 := by omega
  clear hT h ek
  go_enter Tryz.func110, Tryz.ntmps110
  go_upto_region 4 with fail
  refine forget (fun Y => Below w.heap.size w Y ∧ Row Y w.heap.size 139 #[.string ⟨#[]⟩, .int .i64 0, .int .i64 0, .int .i64 0] ∧ Row Y (w.heap.size + 1) 162 #[.int .i64 a, .int .i64 m, .int .i64 d]) ⟨((Below.refl _ _).alloc (Nat.le_refl _) _).alloc (by simp) _, (Row.new _ _ _).alloc _, Row.newAt (by simp)⟩ ?_
  clear t0 t1 t2 hp
  rintro Y ⟨bY, r4, r3⟩
  obtain ⟨p0, p1, p2⟩ := row3 r3
  have f0 := r4.thaw 0
  have f1 := r4.thaw 1
  have f2 := r4.thaw 2
  have f3 := r4.thaw 3
  obtain ⟨q0, q1, q2, q3⟩ := row4 r4
  have R4 := Lib.hid r4
  have R3 := Lib.hid r3
  have BY := Lib.hid bY
  clear r3 r4 bY
  refine wp_region_held_drew (S := fun w' : World => w'.cell? ⟨w.heap.size + 1, 0, none⟩ = some (.int .i64 a) ∧ w'.cell? ⟨w.heap.size + 1, 1, none⟩ = some (.int .i64 m) ∧ w'.cell? ⟨w.heap.size + 1, 2, none⟩ = some (.int .i64 d)) (by kernel_rfl) ⟨p0, p1, p2⟩ (fun hHeld => ?_)
  refine wpAnyH_take (i := 0) (v := ?_) rfl (by kernel_rfl) (by kernel_rfl) (by kernel_rfl) (fun _ _ _ h => h) (Or.inl ⟨by rfl, ?_⟩) (by assumption) ?_
  case refine_2 => (intro wx hSx; (try dsimp only at hSx); go_simp; first | done | with_reducible rfl)
  try simp only [Act.put]
  refine wpAnyH_take (i := 1) (v := ?_) rfl (by kernel_rfl) (by kernel_rfl) (by kernel_rfl) (fun _ _ _ h => h) (Or.inl ⟨by rfl, ?_⟩) (by assumption) ?_
  case refine_2 => (intro wx hSx; (try dsimp only at hSx); go_simp; first | done | with_reducible rfl)
  try simp only [Act.put]
  refine wpAnyH_take (i := 2) (v := ?_) rfl (by kernel_rfl) (by kernel_rfl) (by kernel_rfl) (fun _ _ _ h => h) (Or.inl ⟨by rfl, ?_⟩) (by assumption) ?_
  case refine_2 => (intro wx hSx; (try dsimp only at hSx); go_simp; first | done | with_reducible rfl)
  try simp only [Act.put]
  refine wpAnyH_take (i := 3) (v := ?_) rfl (by kernel_rfl) (by kernel_rfl) (by kernel_rfl) (fun _ _ _ h => h) (Or.inl ⟨by rfl, ?_⟩) (by assumption) ?_
  case refine_2 => (intro wx hSx; (try dsimp only at hSx); go_simp; first | done | with_reducible rfl)
  try simp only [Act.put]
  refine wpAnyH_take (i := 4) (v := ?_) rfl (by kernel_rfl) (by kernel_rfl) (by kernel_rfl) (fun _ _ _ h => h) (Or.inl ⟨by rfl, ?_⟩) (by assumption) ?_
  case refine_2 => (intro wx hSx; (try dsimp only at hSx); go_simp; first | done | with_reducible rfl)
  try simp only [Act.put]
  refine wpAnyH_take (i := 5) (v := ?_) rfl (by kernel_rfl) (by kernel_rfl) (by kernel_rfl) (fun _ _ _ h => h) (Or.inl ⟨by rfl, ?_⟩) (by assumption) ?_
  case refine_2 => (intro wx hSx; (try dsimp only at hSx); go_simp; first | done | with_reducible rfl)
  try simp only [Act.put]
  refine wpAnyH_take (i := 6) (v := ?_) rfl (by kernel_rfl) (by kernel_rfl) (by kernel_rfl) (fun _ _ _ h => h) (Or.inl ⟨by rfl, ?_⟩) (by assumption) ?_
  case refine_2 => (intro wx hSx; (try dsimp only at hSx); go_simp; first | done | with_reducible rfl)
  try simp only [Act.put]
  refine wpAnyH_take (i := 7) (v := ?_) rfl (by kernel_rfl) (by kernel_rfl) (by kernel_rfl) (fun _ _ _ h => h) (Or.inl ⟨by rfl, ?_⟩) (by assumption) ?_
  case refine_2 => (intro wx hSx; (try dsimp only at hSx); go_simp; first | done | with_reducible rfl)
  try simp only [Act.put]
  refine wpAnyH_take (i := 8) (v := ?_) rfl (by kernel_rfl) (by kernel_rfl) (by kernel_rfl) (fun _ _ _ h => h) (Or.inl ⟨by rfl, ?_⟩) (by assumption) ?_
  case refine_2 => (intro wx hSx; (try dsimp only at hSx); go_simp; first | done | with_reducible rfl)
  try simp only [Act.put]
  refine wpAnyH_take (i := 9) (v := ?_) rfl (by kernel_rfl) (by kernel_rfl) (by kernel_rfl) (fun _ _ _ h => h) (Or.inl ⟨by rfl, ?_⟩) (by assumption) ?_
  case refine_2 => (intro wx hSx; (try dsimp only at hSx); go_simp; first | done | with_reducible rfl)
  try simp only [Act.put]
  refine wpAnyH_take (i := 10) (v := ?_) rfl (by kernel_rfl) (by kernel_rfl) (by kernel_rfl) (fun _ _ _ h => h) (Or.inl ⟨by rfl, ?_⟩) (by assumption) ?_
  case refine_2 => (intro wx hSx; (try dsimp only at hSx); go_simp; first | done | with_reducible rfl)
  try simp only [Act.put]
  refine wpAnyH_ready (rs := [11]) (by kernel_rfl) (by simp) ?_
  refine AllReadyH.cons rfl (fun K hK => ?_) AllReadyH.nil
  go_simp
  refine hK.out _ _ (row3 (set4_far _ _ _ _ R3.out.drew (by omega))) (fun hHeld2 => ?_)
  clear hK K hHeld
  try simp only [Act.put]
  refine wpAnyH_take (i := 12) (oi := ⟨some 3, _, _, _, _, none⟩) (v := ?_) rfl (by kernel_rfl) (by kernel_rfl) (by kernel_rfl) (fun _ _ _ h => h) (Or.inl ⟨by rfl, ?_⟩) (by assumption) ?_
  case refine_2 => (intro wx hSx; (try dsimp only at hSx); go_simp; first | done | with_reducible rfl)
  try simp only [Act.put]
  refine wpAnyH_done (by kernel_rfl) ?_ _
  have HZ := Lib.hid (set4_row (.string (S [lb])) (.int .i64 a) (.int .i64 m) (.int .i64 d) R4.out).drew
  clear f0 f1 f2 f3 q0 q1 q2 q3 p0 p1 p2
  go_wp2_with fail
  exact bodyPost_ret (v := .tuple #[.agg #[.string (S [lb]), .int .i64 a, .int .i64 m, .int .i64 d], .int .i64 0]) (by obtain ⟨z0, z1, z2, z3⟩ := row4 HZ.out; simp [results, Tryz.results110, z0, z1, z2, z3, go_sem]) rfl ⟨by unfold infoV; rw [E0.out.1, E0.out.2.1, E0.out.2.2.1, E0.out.2.2.2], (set4_below BY.out (Nat.le_refl _)).drew⟩
end Go.Proofs.YtfnlgfacadmjpaaGreatDoor.El
namespace Go.Proofs.YtfnlgfacadmjpaaGreatDoor.El
open Go.RowKit

/-- A reading as a value. -/
abbrev rdV (c v : Int) : Value := .agg #[.int .i64 c, .int .i64 v]
set_option maxHeartbeats 1000000 in
theorem check_any (c v : Int) (w : World) (hT : Tab w) :
    Calls Tryz.prog 109 #[rdV c v] w fun e w' => e = .returned (.int .i64 (Elt.chk c v)) ∧ Below w.heap.size w w' := by
  have b0 : Below w.heap.size w (w.alloc (.cells #[.int .i64 c, .int .i64 v] 99)) := (Below.refl _ _).alloc (Nat.le_refl _) _
  have r0 := Row.new w #[.int .i64 c, .int .i64 v] 99
  have hT0 := hT.under b0
  rcases Elt.chk_cases c v with ⟨⟨h, h1, h2⟩, hk⟩ | ⟨h, h1, hk⟩ | ⟨h, hk⟩
  · have HK := Lib.hid hk; clear hk
    go_enter Tryz.func109, Tryz.ntmps109
    go_wp2_with fail
    refine (describe_yes c _ h hT0).mono ?_
    rintro e w1 ⟨rfl, g1⟩
    go_upto_region 4 with fail
    have HL := Lib.hid h
    refine forget (fun Y => Below w.heap.size w Y ∧ Row Y w.heap.size 99 #[.int .i64 c, .int .i64 v] ∧ Row Y w1.heap.size 139 #[.string (S [Elt.lt c]), .int .i64 (Elt.lo c), .int .i64 (Elt.hi c), .int .i64 (Elt.dg c)]) ⟨(b0.trans (g1.mono (by simp))).alloc (Nat.le_trans b0.size g1.size) _, (r0.under g1).alloc _, Row.new _ _ _⟩ ?_
    clear g1 b0 r0 hT0
    rintro Y ⟨bY, r2, r4⟩
    obtain ⟨p0, p1⟩ := row2 r2
    obtain ⟨q0, q1, q2, q3⟩ := row4 r4
    have BY := Lib.hid bY; clear bY r2 r4
    go_wp2_with fail
    go_ret
    exact ⟨ret_i64 HK.out.symm, BY.out⟩
  · have HK := Lib.hid hk; clear hk
    go_enter Tryz.func109, Tryz.ntmps109
    go_wp2_with fail
    refine (describe_yes c _ h hT0).mono ?_
    rintro e w1 ⟨rfl, g1⟩
    go_upto_region 4 with fail
    refine forget (fun Y => Below w.heap.size w Y ∧ Row Y w.heap.size 99 #[.int .i64 c, .int .i64 v] ∧ Row Y w1.heap.size 139 #[.string (S [Elt.lt c]), .int .i64 (Elt.lo c), .int .i64 (Elt.hi c), .int .i64 (Elt.dg c)]) ⟨(b0.trans (g1.mono (by simp))).alloc (Nat.le_trans b0.size g1.size) _, (r0.under g1).alloc _, Row.new _ _ _⟩ ?_
    clear g1 b0 r0 hT0
    rintro Y ⟨bY, r2, r4⟩
    obtain ⟨p0, p1⟩ := row2 r2
    obtain ⟨q0, q1, q2, q3⟩ := row4 r4
    have BY := Lib.hid bY; clear bY r2 r4
    by_cases h2 : v < Elt.lo c
    · clear h1
      go_wp2_with fail
      go_ret
      exact ⟨ret_i64 HK.out.symm, BY.out⟩
    · have h3 : Elt.hi c < v := by omega
      clear h1
      go_wp2_with fail
      go_ret
      exact ⟨ret_i64 HK.out.symm, BY.out⟩
  · have HK := Lib.hid hk; clear hk
    go_enter Tryz.func109, Tryz.ntmps109
    go_wp2_with fail
    refine (describe_no c _ h).mono ?_
    rintro e w1 ⟨rfl, g1⟩
    go_wp2_with fail
    go_ret
    exact ⟨ret_i64 HK.out.symm, (b0.trans (g1.mono (by simp))).alloc (Nat.le_trans b0.size g1.size) _⟩
set_option maxHeartbeats 1000000 in
theorem byLetter_yes (c : Int) (w : World) (h : Elt.Ex c) :
    Calls Tryz.prog 198 #[.string (S [Elt.lt c])] w fun e w' => e = .returned (.tuple #[.int .i64 c, .int .i64 0]) ∧ w = w' := by
  obtain ⟨m, rfl, hm⟩ : ∃ k : Nat, c = (k : Int) + 1 ∧ k < 11 := ⟨(c - 1).toNat, by unfold Elt.Ex at h; omega, by unfold Elt.Ex at h; omega⟩
  have em : Elt.lt ((m : Int) + 1) = Elt.lets.getD m 0 := by unfold Elt.lt; rw [show ((m : Int) + 1 - 1).toNat = m by omega]
  rw [em]
  clear h em
  have HM := Lib.hid hm
  go_enter Tryz.func198, Tryz.ntmps198
  go_wp2_with fail
  go_loop [5] (fun t => ∃ k : Nat, k ≤ m ∧ t = .int .i64 k) (fun t => 11 - (intOf t).toNat)
  case atStart => exact ⟨0, Nat.zero_le _, rfl⟩
  case round =>
    obtain ⟨k, hk, rfl⟩ := hrel
    have k0 : (0 : Int) ≤ (k : Int) := by omega
    have k1 : (k : Int) < 11 := by omega
    have x1 : IntKind.i64.wrap (k : Int) = (k : Int) := IntWalk.i64_in _ (by omega)
    have hk11 : k < 11 := by omega
    have e1 := conv_let ⟨k, hk11⟩
    have e2 := index_let ⟨k, hk11⟩
    simp only at e1 e2
    by_cases he : k = m
    · subst he
      generalize Elt.lets.getD k 0 = lb at *
      go_wp2_with fail
      go_ret2
      exact ⟨rfl, rfl⟩
    · have hne : ((S [Elt.lets.getD k 0]).toList == (S [Elt.lets.getD m 0]).toList) = false := toList_ne (fun e => by
        have := S_inj e
        exact Elt.lets_ne ⟨k, hk11⟩ ⟨m, HM.out⟩ (fun h => he (congrArg Fin.val h)) (by injection this))
      have HE := Lib.hid he; clear he
      generalize S [Elt.lets.getD m 0] = sm at *
      generalize Elt.lets.getD k 0 = lb at *
      go_wp2_with fail
      go_round
      case rel => exact ⟨k + 1, by have := HE.out; omega, by go_num⟩
      case measure => simp [intOf]; omega
set_option maxHeartbeats 1000000 in
theorem byLetter_no (s : ByteArray) (w : World) (h : ∀ c, Elt.Ex c → s ≠ S [Elt.lt c]) :
    Calls Tryz.prog 198 #[.string s] w fun e w' => e = .returned (.tuple #[.int .i64 0, .int .i64 9]) ∧ w = w' := by
  have H := Lib.hid h; clear h
  go_enter Tryz.func198, Tryz.ntmps198
  go_wp2_with fail
  go_loop [5] (fun t => ∃ k : Nat, k ≤ 11 ∧ t = .int .i64 k) (fun t => 11 - (intOf t).toNat)
  case atStart => exact ⟨0, Nat.zero_le _, rfl⟩
  case round =>
    obtain ⟨k, hk, rfl⟩ := hrel
    by_cases hk11 : k < 11
    · have k0 : (0 : Int) ≤ (k : Int) := by omega
      have k1 : (k : Int) < 11 := by omega
      have x1 : IntKind.i64.wrap (k : Int) = (k : Int) := IntWalk.i64_in _ (by omega)
      have e1 := conv_let ⟨k, hk11⟩
      have e2 := index_let ⟨k, hk11⟩
      have hne : ((S [Elt.lets.getD k 0]).toList == s.toList) = false := toList_ne (fun e => H.out ((k : Int) + 1) ⟨by omega, by omega⟩ (by unfold Elt.lt; rw [show ((k : Int) + 1 - 1).toNat = k by omega]; exact e.symm))
      simp only at e1 e2
      generalize Elt.lets.getD k 0 = lb at *
      go_wp2_with fail
      go_round
      case rel => exact ⟨k + 1, by omega, by go_num⟩
      case measure => simp [intOf]; omega
    · have k1 : ¬ (k : Int) < 11 := by omega
      go_wp2_with fail
      go_ret2
      exact ⟨rfl, rfl⟩
end Go.Proofs.YtfnlgfacadmjpaaGreatDoor.El
