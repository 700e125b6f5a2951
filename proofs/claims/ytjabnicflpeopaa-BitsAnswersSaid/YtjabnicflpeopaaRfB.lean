/- Contracts of the reference's All and Of. -/
import Derived.Test.YtjabnicflpeopaaRfA
namespace Go.Proofs.Ytjabnicflpeopaa
open Go.RowKit

/-- The first n bits of f as numbers. -/
def bl (f : Nat → Bool) (n : Nat) : List Int := (List.range n).map fun i => ((f i).toNat : Int)
theorem bl_len (f : Nat → Bool) (n : Nat) : (bl f n).length = n := by simp [bl]
theorem bl_succ (f : Nat → Bool) (n : Nat) : bl f (n + 1) = bl f n ++ [((f n).toNat : Int)] := by simp [bl, List.range_succ]
theorem bl_at (f : Nat → Bool) (n i : Nat) (h : i < n) : (bl f n).getD i 0 = ((f i).toNat : Int) := by
  rw [List.getD_eq_getElem?_getD]
  simp [bl, h]
theorem intI : Try.prog.info? 3 = some Try.t3 := by kernel_rfl
theorem intZ : (Try.t3).zero = some (.int .i64 0) := by kernel_rfl
theorem intS : (Try.t3).size = 1 := by kernel_rfl
theorem intB : (Try.t3).bytes = 8 := by kernel_rfl
theorem own_under {w w' : World} {base size n : Nat} {e : TypeId} {v : Value} {xs : List Value} (h : w.ownsRow base e size v n xs) (hb : Below w.heap.size w w') : w'.ownsRow base e size v n xs := by
  refine h.kept (row := none) (grown_below hb) ?_
  cases hv : v.ownBlock
  · exact .inl rfl
  · exact .inr (by simp)
theorem below_own {a b c : World} {B B2 size n : Nat} {e : TypeId} {v : Value} {xs : List Value} (h : Below B a b) (hB : B ≤ b.heap.size) (hBB : B ≤ B2) (ho : b.ownsRow B2 e size v n xs) (k : b.grownBy c v.ownBlock) : Below B a c :=
  ⟨k.os.trans h.os, k.tape.trans h.tape, k.output.trans h.output, Nat.le_trans h.size k.size, fun i hi => (k.block i (by omega) (fun e => by have := (ho.lt i e.symm).1; omega)).trans (h.block i hi)⟩
theorem own_base {w : World} {B B2 size n : Nat} {e : TypeId} {v : Value} {xs : List Value} (h : w.ownsRow B2 e size v n xs) (hB : B ≤ B2) : w.ownsRow B e size v n xs := by
  refine ⟨h.1, ?_⟩
  rcases h.2 with h0 | ⟨g, cap, cur, e1, e2, e3⟩
  · exact .inl h0
  · exact .inr ⟨g, cap, cur, e1, Nat.le_trans hB e2, e3⟩
theorem row_own {a b : World} {B size n g : Nat} {t e : TypeId} {v : Value} {xs : List Value} {cs : Array Value} (h : Row a g t cs) (hg : g < B) (ho : a.ownsRow B e size v n xs) (k : a.grownBy b v.ownBlock) : Row b g t cs :=
  h.grown k (fun e => by have := (ho.lt g e.symm).1; omega)
/-- A number more. -/
theorem OwnI.more {w : World} {base : Nat} {v : Value} {X : List Int} {x : Int} (h : w.ownsRow base 3 1 v (X.length + 1) (ic X ++ [.int .i64 x])) : OwnI w base v (X ++ [x]) := by
  unfold OwnI
  rw [List.length_append, List.length_singleton, ic_app]
  exact h
set_option maxHeartbeats 1000000 in
theorem refAll_any (w : World) (A : Option Addr) (c : Nat) (L : List Nat) (n : Nat) (h : Bys w A c L) (hL : L.length = (n + 7) / 8) (hn : n ≤ 40000) :
    Calls Try.prog 33 #[.agg #[.slice A L.length c, .int .i64 n]] w fun e w' => ∃ v, e = .returned v ∧ OwnI w' w.heap.size v (bl (bt L) n) ∧ Below w.heap.size w w' := by
  have H := Lib.hid h
  have HL := Lib.hid hL
  clear h hL
  go_enter Try.func33, Try.ntmps33
  go_wp2_with fail
  have R0 : Hid (Row (w.alloc (.cells #[.slice A L.length c, .int .i64 (n : Int)] 24)) w.heap.size 24 #[.slice A L.length c, .int .i64 (n : Int)] ∧ Below w.heap.size w (w.alloc (.cells #[.slice A L.length c, .int .i64 (n : Int)] 24))) := Lib.hid ⟨Row.new _ _ _, (Below.refl _ _).alloc (Nat.le_refl _) _⟩
  go_loopw [3, 4] (fun v t Y => ∃ i : Nat, i ≤ n ∧ t = .int .i64 i ∧ Hid (Row Y w.heap.size 24 #[.slice A L.length c, .int .i64 (n : Int)] ∧ Below w.heap.size w Y ∧ OwnI Y (w.heap.size + 1) v (bl (bt L) i))) (fun _ t _ => n - (intOf t).toNat)
  case atStart => exact ⟨0, Nat.zero_le _, rfl, Lib.hid ⟨R0.out.1, R0.out.2, OwnI.nil _ _⟩⟩
  case round =>
    clear R0
    obtain ⟨i, hi', rfl, M⟩ := hrel
    obtain ⟨p0, p1⟩ := row2 M.out.1
    by_cases hlt : i < n
    · have i0 : (0 : Int) ≤ (i : Int) := by omega
      have i1 : (i : Int) < (n : Int) := by omega
      have HC := Lib.hid (refAt_any wr A c L (n : Int) i (H.out.under M.out.2.1) (by rw [HL.out]; omega) (by omega))
      have HS := Lib.hid (bl_succ (bt L) i)
      generalize ((bt L i).toNat : Int) = b at HC HS
      go_wp2_with fail
      refine HC.out.mono ?_
      rintro e w2 ⟨rfl, g2⟩
      have HO := Lib.hid (show Row w2 w.heap.size 24 #[.slice A L.length c, .int .i64 (n : Int)] ∧ Below w.heap.size w w2 ∧ w2.ownsRow (w.heap.size + 1) 3 1 _ (bl (bt L) i).length (ic (bl (bt L) i)) from ⟨M.out.1.under g2, M.out.2.1.trans (g2.mono M.out.2.1.size), own_under M.out.2.2 g2⟩)
      have S3 := Lib.hid (show Row (w2.alloc (.cells #[.int .i64 b] 3)) w.heap.size 24 #[.slice A L.length c, .int .i64 (n : Int)] ∧ Below w.heap.size w (w2.alloc (.cells #[.int .i64 b] 3)) ∧ (w2.alloc (.cells #[.int .i64 b] 3)).ownsRow (w.heap.size + 1) 3 1 _ (bl (bt L) i).length (ic (bl (bt L) i)) from ⟨HO.out.1.alloc _, HO.out.2.1.alloc HO.out.2.1.size _, own_under HO.out.2.2 ((Below.refl _ _).alloc (Nat.le_refl _) _)⟩)
      have hsz : w.heap.size + 1 ≤ w2.heap.size := Row.lt HO.out.1
      have HZ := Lib.hid hsz
      have HLn : Hid ((bl (bt L) i).length = i) := Lib.hid (bl_len _ _)
      clear g2 HC M p0 p1 HO hsz
      go_wp2_with (at_builtin; refine wpList_append_lies _ rfl (.tmp 11) (.tmp 15) 25 rfl (w.heap.size + 1) 3 Try.t3 _ 1 8 Try.underlying25 intI intZ intS intB rfl (by decide) «u3» (bl (bt L) i).length (ic (bl (bt L) i)) rfl S3.out.2.2 ⟨w2.heap.size, 0, none⟩ 1 1 [.int .i64 b] rfl rfl (World.news_of_block (cs := #[.int .i64 b]) (t := 3) (fr := (0, 0)) (heap_alloc_new w2 _)) (by simp [Value.oneCell']) (by omega) (by have := HLn.out; unfold maxLen; omega) (by have := HLn.out; omega) (by have := HZ.out; simp; omega) (w2.heap.size + 1) (by simp) ?_; intro g' cap' w4 hown4 hgrow4 hat4 hlt4; have S4 := Lib.hid (show Row w4 w.heap.size 24 #[.slice A L.length c, .int .i64 (n : Int)] ∧ Below w.heap.size w w4 ∧ OwnI w4 (w.heap.size + 1) _ (bl (bt L) i ++ [b]) from ⟨row_own S3.out.1 (Nat.lt_succ_self _) S3.out.2.2 hgrow4, below_own S3.out.2.1 S3.out.2.1.size (Nat.le_succ _) S3.out.2.2 hgrow4, OwnI.more hown4⟩); clear hown4 hgrow4 hat4 hlt4)
      go_roundw
      case rel => exact ⟨i + 1, by omega, by go_num, by rw [HS.out]; exact S4⟩
      case measure => simp [intOf]; omega
    · have k1 : ¬ (i : Int) < (n : Int) := by omega
      obtain rfl : i = n := by omega
      go_wp2
      go_ret
      exact ⟨_, rfl, own_base M.out.2.2 (Nat.le_succ _), M.out.2.1⟩
end Go.Proofs.Ytjabnicflpeopaa
