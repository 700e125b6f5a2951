/- The walk of ElementLetters: for every number the law returns true, and what lay in memory is as it was. -/
import Derived.Test.YthlcpmkjemdhkaaDoorAwake
import Derived.Test.YthlcpmkjemdhkaaDoorSrc
namespace Go.Proofs.YthlcpmkjemdhkaaDoor
open Go.RowKit

theorem hi_pos0 : ∀ k : Fin 11, 0 ≤ Elt.mosts.getD k 0 := by decide +kernel
theorem txt_size (c v : Int) : (S (Elt.txt c v)).size = 1 + (Elt.sg v).length + Elt.dg c := by
  rw [S_size]; unfold Elt.txt Elt.tail; rw [List.length_cons, List.length_append, Elt.ddn_len]; omega
theorem sg_neg {v : Int} (h : v < 0) : (Elt.sg v).length = 1 := by unfold Elt.sg; rw [if_pos h]; rfl
theorem sg_pos {v : Int} (h : 0 ≤ v) : (Elt.sg v).length = 0 := by unfold Elt.sg; rw [if_neg (by omega)]; rfl
set_option maxRecDepth 100000 in
set_option maxHeartbeats 2000000 in
theorem elementLetters_any (code : Int) (w : World) (hE : Env w) (hi64 : I64 code) :
    Calls Tryd.prog 5 #[.int .i64 code] w fun e w' => e = .returned (.bool true) ∧ Below w.heap.size w w' := by
  have c1 : 0 ≤ code % 11 := Int.emod_nonneg _ (by omega)
  have c2 : code % 11 < 11 := Int.emod_lt_of_pos _ (by omega)
  obtain ⟨c, hc⟩ : ∃ c, 1 + code % 11 = c := ⟨_, rfl⟩
  have hx : Elt.Ex c := ⟨by omega, by omega⟩
  obtain ⟨⟨f1, f2, f3, f4, f5⟩, f6, f7, f8, -⟩ := Elt.facts hx
  have vl : Elt.Val c (Elt.lo c) := ⟨hx, by omega, by omega⟩
  have vh : Elt.Val c (Elt.hi c) := ⟨hx, by omega, by omega⟩
  have hp : 0 ≤ Elt.hi c := hi_pos0 ⟨(c - 1).toNat, by omega⟩
  have z1 := txt_size c (Elt.lo c)
  have z2 := txt_size c (Elt.hi c)
  rw [sg_pos hp] at z2
  have F := Lib.hid (fun W (hW : Env W) => describe_yes c W hx hW.tab)
  have G := Lib.hid (fun W => byLetter_yes c W hx)
  have H1 := Lib.hid (fun W (hW : Env W) => format_yes c (Elt.lo c) W hW vl)
  have H2 := Lib.hid (fun W (hW : Env W) => format_yes c (Elt.hi c) W hW vh)
  have HM := Lib.hid (fun W => mod_any code 11 W hi64 (by omega) (by omega))
  have mne : Hid (Elt.lo c < 0 ∧ (Elt.sg (Elt.lo c)).length = 1 ∨ 0 ≤ Elt.lo c ∧ (Elt.sg (Elt.lo c)).length = 0) := Lib.hid (by
    by_cases h : Elt.lo c < 0
    · exact .inl ⟨h, sg_neg h⟩
    · exact .inr ⟨by omega, sg_pos (by omega)⟩)
  simp only [infoV] at F
  generalize (Elt.sg (Elt.lo c)).length = sl at *
  generalize S (Elt.txt c (Elt.lo c)) = ta at *
  generalize S (Elt.txt c (Elt.hi c)) = tb at *
  generalize S [Elt.lt c] = sc at *
  generalize Elt.lo c = lo at *
  generalize Elt.hi c = hi at *
  generalize Elt.dg c = dg at *
  clear f4 f5 vl vh hx hi64 hp f8
  go_enter Tryd.func5, Tryd.ntmps5
  go_wp2_with fail
  refine (HM.out _).mono ?_
  rintro e w1 ⟨rfl, rfl⟩
  have d1 : 1 ≤ c := by omega
  have d2 : c ≤ 11 := by omega
  go_wp2_with fail
  refine (F.out _ hE).mono ?_
  rintro e w1 ⟨rfl, g1⟩
  clear hc HM c1 c2
  have E1 := hE.under g1
  go_upto_region 3 with fail
  refine forget (fun Y => Below w.heap.size w Y ∧ Env Y ∧ Row Y w1.heap.size 30 #[.string sc, .int .i64 lo, .int .i64 hi, .int .i64 dg]) ⟨g1.alloc g1.size _, E1.alloc _, Row.new _ _ _⟩ ?_
  clear E1 g1 F
  generalize w1.heap.size = gi at *
  rintro Y ⟨bY, eY, rY⟩
  obtain ⟨p0, p1, p2, p3⟩ := row4 rY
  go_wp2_with fail
  refine (G.out _).mono ?_
  rintro e w2 ⟨rfl, rfl⟩
  go_wp2_with fail
  refine (H1.out _ eY).mono ?_
  rintro e w3 ⟨rfl, g3⟩
  have b3 := bY.trans (g3.mono bY.size)
  have e3 := eY.under g3
  have r3 := rY.under g3
  clear bY eY rY g3 p0 p1 p2 p3 H1
  obtain ⟨p0, p1, p2, p3⟩ := row4 r3
  go_wp2_with fail
  refine (H2.out _ e3).mono ?_
  rintro e w4 ⟨rfl, g4⟩
  have b4 := Lib.hid (b3.trans (g4.mono b3.size))
  have e4 := Lib.hid (e3.under g4)
  have r4 := r3.under g4
  clear b3 e3 r3 g4 p0 p1 p2 p3 H2
  obtain ⟨p0, p1, p2, p3⟩ := row4 r4
  clear r4
  rcases mne.out with ⟨m1, rfl⟩ | ⟨m1, rfl⟩
  · go_wp2_with fail
    refine (awake_from (w0 := w) _ e4.out b4.out).mono ?_
    rintro e w5 ⟨rfl, g5⟩
    have b5 := Lib.hid g5; clear g5
    go_wp2_with fail
    go_ret
    exact ⟨rfl, b5.out⟩
  · go_wp2_with fail
    refine (awake_from (w0 := w) _ e4.out b4.out).mono ?_
    rintro e w5 ⟨rfl, g5⟩
    have b5 := Lib.hid g5; clear g5
    go_wp2_with fail
    go_ret
    exact ⟨rfl, b5.out⟩
end Go.Proofs.YthlcpmkjemdhkaaDoor
