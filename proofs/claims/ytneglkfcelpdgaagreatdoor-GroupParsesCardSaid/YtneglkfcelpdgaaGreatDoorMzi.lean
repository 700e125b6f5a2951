/- Contract of the program's Compare of reports. -/
import Derived.Test.YtneglkfcelpdgaaGreatDoorMzh
namespace Go.Proofs.YtneglkfcelpdgaaGreatDoor
open Go.RowKit

/-- The comparison of two reports. -/
def cRep (k : Int) (nm : ByteArray) (t F A B C : Int) (L : List El.Elt.R) (k' : Int) (nm' : ByteArray) (t' F' A' B' C' : Int) (L' : List El.Elt.R) : Int :=
  orL [Cmpr.num k k', ctx nm nm', Cmpr.num t t', orL [Cmpr.num F F', Cmpr.num A A', Cmpr.num B B', Cmpr.num C C'], cRs L L']
theorem cmpInt_from (x y : Int) (w0 w : World) (hb : Below w0.heap.size w0 w) :
    Calls Tryz.prog 55 #[.int .i64 x, .int .i64 y] w fun e w' => e = .returned (.int .i64 (Cmpr.num x y)) ∧ Below w0.heap.size w0 w' := (cmpInt_is x y w).mono fun _ _ ⟨he, hw⟩ => ⟨he, hw ▸ hb⟩
theorem cmpStr_from (x y : ByteArray) (w0 w : World) (hb : Below w0.heap.size w0 w) :
    Calls Tryz.prog 56 #[.string x, .string y] w fun e w' => e = .returned (.int .i64 (ctx x y)) ∧ Below w0.heap.size w0 w' := (cmpStr_any x y w).mono fun _ _ ⟨he, hw⟩ => ⟨he, hw ▸ hb⟩
theorem cmpPl_from (a b c d a' b' c' d' : Int) (w0 w : World) (hb : Below w0.heap.size w0 w) :
    Calls Tryz.prog 57 #[.agg #[.int .i64 a, .int .i64 b, .int .i64 c, .int .i64 d], .agg #[.int .i64 a', .int .i64 b', .int .i64 c', .int .i64 d']] w fun e w' => e = .returned (.int .i64 (orL [Cmpr.num a a', Cmpr.num b b', Cmpr.num c c', Cmpr.num d d'])) ∧ Below w0.heap.size w0 w' :=
  (cmpPl_any a b c d a' b' c' d' w).mono fun _ _ ⟨he, hg⟩ => ⟨he, hb.trans (hg.mono hb.size)⟩
theorem cmpRs_from (va vb : Value) (L M : List El.Elt.R) (w0 w : World) (ha : El.RdIn w0 va L) (hv : El.RdIn w0 vb M) (hb : Below w0.heap.size w0 w) :
    Calls Tryz.prog 58 #[va, vb, .func (.func 59) #[] #[]] w fun e w' => e = .returned (.int .i64 (cRs L M)) ∧ Below w0.heap.size w0 w' :=
  (cmpRs_any va vb L M w (ha.under hb) (hv.under hb)).mono fun _ _ ⟨he, hg⟩ => ⟨he, hb.trans (hg.mono hb.size)⟩
def Cells2 (g0 g1 : Nat) (k : Int) (nm : ByteArray) (t F A B C : Int) (u : Value) (k' : Int) (nm' : ByteArray) (t' F' A' B' C' : Int) (u' : Value) (w : World) : Prop :=
  (w.cell? ⟨g0, 0, none⟩ = some (.int .i64 k) ∧ w.cell? ⟨g0, 1, none⟩ = some (.string nm) ∧ w.cell? ⟨g0, 2, none⟩ = some (.int .i64 t) ∧ w.cell? ⟨g0, 3, none⟩ = some (.int .i64 F) ∧ w.cell? ⟨g0, 4, none⟩ = some (.int .i64 A) ∧ w.cell? ⟨g0, 5, none⟩ = some (.int .i64 B) ∧ w.cell? ⟨g0, 6, none⟩ = some (.int .i64 C) ∧ w.cell? ⟨g0, 7, none⟩ = some u) ∧
  w.cell? ⟨g1, 0, none⟩ = some (.int .i64 k') ∧ w.cell? ⟨g1, 1, none⟩ = some (.string nm') ∧ w.cell? ⟨g1, 2, none⟩ = some (.int .i64 t') ∧ w.cell? ⟨g1, 3, none⟩ = some (.int .i64 F') ∧ w.cell? ⟨g1, 4, none⟩ = some (.int .i64 A') ∧ w.cell? ⟨g1, 5, none⟩ = some (.int .i64 B') ∧ w.cell? ⟨g1, 6, none⟩ = some (.int .i64 C') ∧ w.cell? ⟨g1, 7, none⟩ = some u'
theorem cells2 {Y X : World} {g0 g1 : Nat} {ty : TypeId} {k : Int} {nm : ByteArray} {t F A B C : Int} {u : Value} {k' : Int} {nm' : ByteArray} {t' F' A' B' C' : Int} {u' : Value} (r0 : Row Y g0 ty (repC k nm t F A B C u)) (r1 : Row Y g1 ty (repC k' nm' t' F' A' B' C' u'))
    (hb : Below Y.drew.heap.size Y.drew X) : Cells2 g0 g1 k nm t F A B C u k' nm' t' F' A' B' C' u' X := ⟨row8 (r0.drew.under hb), row8 (r1.drew.under hb)⟩
set_option maxRecDepth 100000 in
set_option maxHeartbeats 8000000 in
theorem compare_any (k : Int) (nm : ByteArray) (t F A B C : Int) (u : Value) (L : List El.Elt.R) (k' : Int) (nm' : ByteArray) (t' F' A' B' C' : Int) (u' : Value) (L' : List El.Elt.R) (w : World) (hL : El.RdIn w u L) (hL' : El.RdIn w u' L') :
    Calls Tryz.prog 19 #[repV k nm t F A B C u, repV k' nm' t' F' A' B' C' u'] w fun e w' => e = .returned (.int .i64 (cRep k nm t F A B C L k' nm' t' F' A' B' C' L')) ∧ Below w.heap.size w w' := by
  go_enter Tryz.func19, Tryz.ntmps19
  go_upto_region 1 with fail
  refine forget (fun Y => Below w.heap.size w Y ∧ Row Y w.heap.size 26 (repC k nm t F A B C u) ∧ Row Y (w.heap.size + 1) 26 (repC k' nm' t' F' A' B' C' u')) ⟨((Below.refl _ _).alloc (Nat.le_refl _) _).alloc (by simp) _, (Row.new _ _ _).alloc _, Row.newAt (by simp)⟩ ?_
  rintro Y ⟨bY, r0, r1⟩
  have hLd : El.RdIn Y.drew u L := hL.under bY.drew
  have hLd' : El.RdIn Y.drew u' L' := hL'.under bY.drew
  obtain ⟨⟨c0, c1, c2, c3, c4, c5, c6, c7⟩, d0, d1, d2, d3, d4, d5, d6, d7⟩ := cells2 r0 r1 (Below.refl _ _)
  have h0 := r0.lt
  have h1 := r1.lt
  have BY := Lib.hid bY
  have R0 := Lib.hid r0
  have R1 := Lib.hid r1
  have HL := Lib.hid hLd
  have HL' := Lib.hid hLd'
  have hb2 := Below.refl Y.drew.heap.size Y.drew
  clear r0 r1 bY hL hL' hLd hLd'
  generalize hg0 : w.heap.size = g0 at *
  generalize hg1 : g0 + 1 = g1 at *
  go_region_held3 (fun w' => (w'.cell? ⟨g0, 0, none⟩ = some (.int .i64 k) ∧ w'.cell? ⟨g0, 1, none⟩ = some (.string nm) ∧ w'.cell? ⟨g0, 2, none⟩ = some (.int .i64 t) ∧ w'.cell? ⟨g0, 3, none⟩ = some (.int .i64 F) ∧ w'.cell? ⟨g0, 4, none⟩ = some (.int .i64 A) ∧ w'.cell? ⟨g0, 5, none⟩ = some (.int .i64 B) ∧ w'.cell? ⟨g0, 6, none⟩ = some (.int .i64 C) ∧ w'.cell? ⟨g0, 7, none⟩ = some u) ∧
    w'.cell? ⟨g1, 0, none⟩ = some (.int .i64 k') ∧ w'.cell? ⟨g1, 1, none⟩ = some (.string nm') ∧ w'.cell? ⟨g1, 2, none⟩ = some (.int .i64 t') ∧ w'.cell? ⟨g1, 3, none⟩ = some (.int .i64 F') ∧ w'.cell? ⟨g1, 4, none⟩ = some (.int .i64 A') ∧ w'.cell? ⟨g1, 5, none⟩ = some (.int .i64 B') ∧ w'.cell? ⟨g1, 6, none⟩ = some (.int .i64 C') ∧ w'.cell? ⟨g1, 7, none⟩ = some u')
    (first | go_keep | exact cells2 R0.out R1.out hb2)
    (first | (go_at_call 55; refine (cmpInt_from _ _ Y.drew _ hb2).mono ?_; clear hb2; rintro e w2 ⟨rfl, hb2⟩) | (go_at_call 56; refine (cmpStr_from _ _ Y.drew _ hb2).mono ?_; clear hb2; rintro e w2 ⟨rfl, hb2⟩) | (go_at_call 57; refine (cmpPl_from _ _ _ _ _ _ _ _ Y.drew _ hb2).mono ?_; clear hb2; rintro e w2 ⟨rfl, hb2⟩) | (go_at_call 58; refine (cmpRs_from _ _ _ _ Y.drew _ HL.out HL'.out hb2).mono ?_; clear hb2; rintro e w2 ⟨rfl, hb2⟩) | (go_at_call 54; refine (or_five _ _ _ _ _ _ _ (Row.new _ _ _)).mono ?_; rintro e w3 ⟨rfl, rfl⟩))
  have bw := BY.out.trans ((undrew hb2).mono (Nat.le_of_lt h0))
  clear R0 R1 HL HL' c0 c1 c2 c3 c4 c5 c6 c7 d0 d1 d2 d3 d4 d5 d6 d7
  have hs := bw.size
  rw [hg0] at hs
  have bz := bw.alloc hs (.cells #[.int .i64 (Cmpr.num k k'), .int .i64 (ctx nm nm'), .int .i64 (Cmpr.num t t'), .int .i64 (orL [Cmpr.num F F', Cmpr.num A A', Cmpr.num B B', Cmpr.num C C']), .int .i64 (cRs L L')] 3)
  go_wp2_with fail
  go_ret
  exact ⟨rfl, by rw [hg0]; exact bz⟩
end Go.Proofs.YtneglkfcelpdgaaGreatDoor
