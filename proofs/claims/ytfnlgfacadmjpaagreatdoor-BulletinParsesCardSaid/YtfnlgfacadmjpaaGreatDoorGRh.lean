/- The reference's contract of Resolved at any word; the words of a text as both sides cut it. -/
import Derived.Test.YtfnlgfacadmjpaaGreatDoorGRb
import Derived.Test.YtfnlgfacadmjpaaGreatDoorGRw
import Derived.Test.YtfnlgfacadmjpaaGreatDoorGWo
namespace Go.Proofs.YtfnlgfacadmjpaaGreatDoor
open Go.RowKit
open Ck (dig2)

theorem refRes_any (l : List UInt8) (near : Int) (w : World) :
    Calls Tryz.prog 84 #[.string (S l), .int .i64 near] w fun e w' => ((∃ a, Stm l near a ∧ e = .returned (.tuple #[.int .i64 a, .int .i64 0])) ∨ ((∀ a, ¬ Stm l near a) ∧ ∃ r : Int, r ≠ 0 ∧ e = .returned (.tuple #[.int .i64 0, .int .i64 r]))) ∧ Below w.heap.size w w' := by
  by_cases h6 : l.length = 6
  · cases hd : Pl.digs l
    · refine (refRes_bad (S l) near w (by rw [S_size]; exact h6) (by rw [S_list]; exact hd)).mono fun e w' ⟨he, hg⟩ => ⟨.inr ⟨fun a ⟨d, h, i, x1, x2, x3, x4, _⟩ => ?_, 3, by decide, he⟩, hg⟩
      rw [x4, digs_app, digs_app, digs_dig2 x1.1 x1.2, digs_dig2 x2.1 x2.2, digs_dig2 x3.1 x3.2] at hd
      cases hd
    · obtain ⟨d, h, i, x1, x2, x3, rfl⟩ := six_of h6 hd
      refine (refRes_stamp d h i near w x1 x2 x3).mono fun e w' ⟨hc, hg⟩ => ⟨?_, hg⟩
      rcases hc with ⟨-, a, ha, rfl⟩ | ⟨-, ha, rfl⟩
      · exact .inl ⟨a, ⟨d, h, i, x1, x2, x3, rfl, ha⟩, rfl⟩
      · refine .inr ⟨fun a ⟨d', h', i', y1, y2, y3, y4, y5⟩ => ?_, 1, by decide, rfl⟩
        obtain ⟨rfl, rfl, rfl⟩ := six_inj x1 x2 x3 y1 y2 y3 y4
        rw [ha] at y5; cases y5
  · refine (refRes_len (S l) near w (by rw [S_size]; exact h6)).mono fun e w' ⟨he, hg⟩ => ⟨.inr ⟨fun a ⟨d, h, i, x1, x2, x3, x4, _⟩ => h6 (by rw [x4]; rfl), 3, by decide, he⟩, hg⟩
theorem free_etxt {c v : Int} (h : El.Elt.Val c v) : (32 : UInt8) ∉ El.Elt.txt c v := by
  have hf := El.Elt.facts h.1
  unfold El.Elt.txt El.Elt.tail El.Elt.sg
  simp only [List.mem_cons, List.mem_append, not_or]
  refine ⟨fun e => ?_, ?_, free_ddn _ _⟩
  · have := hf.2.2.2.2.1
    rw [← e] at this
    have e2 : (32 : UInt8).toNat = 32 := rfl
    omega
  · split
    · decide
    · simp
theorem eP_space {x : List UInt8} (h : (32 : UInt8) ∈ x) : (eP x).2.2 ≠ 0 := by
  rcases eP_cases x with ⟨c, v, hv, rfl, -⟩ | ⟨-, e⟩
  · exact absurd h (free_etxt hv)
  · rw [e]; decide
/-- The reference's reading of a text: all its words. -/
def Psf (s : List UInt8) (near k : Int) (nm : List UInt8) (t F A B C : Int) (L : List El.Elt.R) : Prop := Rdd (Wrd.wd s) near k nm t F A B C L ∧ vcode k (S nm) t F A B C L = 0
theorem Plx.len {k : Int} {rest rs : List (List UInt8)} {F A B C : Int} (h : Plx k rest F A B C rs) : ∃ p, rest = p ++ rs ∧ p.length ≤ 1 := by
  rcases h with ⟨-, -, -, -, -, rfl⟩ | ⟨-, x, rfl, -⟩
  · exact ⟨[], rfl, by simp⟩
  · exact ⟨[x], rfl, by simp⟩
/-- Both sides read the same. -/
theorem psf_iff (s : List UInt8) (near k : Int) (nm : List UInt8) (t F A B C : Int) (L : List El.Elt.R) : Psf s near k nm t F A B C L ↔ Psd s near k nm t F A B C L := by
  unfold Psf Psd
  by_cases h15 : (Wrd.wd s).length ≤ 15
  · rw [show spl s = Wrd.wd s from (Wrd.splitK_wd s 14).1 h15]
  · obtain ⟨z, hz, hs⟩ := (Wrd.splitK_wd s 14).2 (by omega)
    constructor
    · rintro ⟨⟨st, rest, rs, e, -, -, hp, -, rfl⟩, hv⟩
      exfalso
      obtain ⟨p, rfl, hpl⟩ := hp.len
      rw [e] at h15
      have hV := Vd.of hv
      have := vld_len hV.list
      simp only [List.length_cons, List.length_append, List.length_map] at h15 this
      omega
    · rintro ⟨⟨st, rest, rs, e, -, -, hp, ho, -⟩, -⟩
      exfalso
      rw [show spl s = (Wrd.wd s).take 14 ++ [z] from hs] at e
      obtain ⟨p, rfl, hpl⟩ := hp.len
      have hl := congrArg List.length e
      simp only [List.length_append, List.length_take, List.length_cons, List.length_nil] at hl
      have hne : rs ≠ [] := by intro h; subst h; simp at hl; omega
      have hzm : z ∈ rs := by
        have h1 := congrArg List.getLast? e
        rw [List.getLast?_append] at h1
        have h2 : (kw k :: nm :: st :: (p ++ rs)).getLast? = rs.getLast? := by
          rw [show kw k :: nm :: st :: (p ++ rs) = (kw k :: nm :: st :: p) ++ rs from rfl, List.getLast?_append]
          cases hr : rs.getLast? with
          | none => exact absurd (List.getLast?_eq_none_iff.1 hr) hne
          | some y => rfl
        rw [h2] at h1
        have h3 : rs.getLast? = some z := by rw [← h1]; rfl
        exact List.mem_of_getLast? h3
      exact eP_space hz (ho z hzm)
end Go.Proofs.YtfnlgfacadmjpaaGreatDoor
