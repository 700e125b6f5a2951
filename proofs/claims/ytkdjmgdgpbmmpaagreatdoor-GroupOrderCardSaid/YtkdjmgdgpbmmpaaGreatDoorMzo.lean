/- The walk of GroupOrder. -/
import Derived.Test.YtkdjmgdgpbmmpaaGreatDoorMzn
import Derived.Test.YtkdjmgdgpbmmpaaGreatDoorMze
import Derived.Test.YtkdjmgdgpbmmpaaGreatDoorMzf
namespace Go.Proofs.YtkdjmgdgpbmmpaaGreatDoor
open Go.RowKit

theorem infoReport : (Tryz.prog.info? 26).map (fun i => (i.zero, i.size, i.bytes)) = some (some (.agg #[.int .i64 0, .string ⟨#[]⟩, .int .i64 0, .int .i64 0, .int .i64 0, .int .i64 0, .int .i64 0, .slice none 0 0]), 8, 88) := by kernel_rfl
def rpCells (r : Rp) : List Value := [.int .i64 r.k, .string r.nm, .int .i64 r.t, .int .i64 r.F, .int .i64 r.A, .int .i64 r.B, .int .i64 r.C, r.u]
def rpc (R : List Rp) : List Value := R.flatMap rpCells
/-- The cells of one report in a row of reports. -/
def At8 (V : World) (g o : Nat) (r : Rp) : Prop :=
  V.cell? ⟨g, o, none⟩ = some (.int .i64 r.k) ∧ V.cell? ⟨g, o + 1, none⟩ = some (.string r.nm) ∧ V.cell? ⟨g, o + 2, none⟩ = some (.int .i64 r.t) ∧ V.cell? ⟨g, o + 3, none⟩ = some (.int .i64 r.F) ∧ V.cell? ⟨g, o + 4, none⟩ = some (.int .i64 r.A) ∧ V.cell? ⟨g, o + 5, none⟩ = some (.int .i64 r.B) ∧ V.cell? ⟨g, o + 6, none⟩ = some (.int .i64 r.C) ∧ V.cell? ⟨g, o + 7, none⟩ = some r.u
theorem At8.under {V w : World} {g o : Nat} {r : Rp} (h : At8 V g o r) (hg : g < V.heap.size) (hb : Below V.heap.size V w) : At8 w g o r := by
  obtain ⟨h0, h1, h2, h3, h4, h5, h6, h7⟩ := h
  exact ⟨(hb.cell (p := ⟨g, o, none⟩) hg).trans h0, (hb.cell (p := ⟨g, o + 1, none⟩) hg).trans h1, (hb.cell (p := ⟨g, o + 2, none⟩) hg).trans h2, (hb.cell (p := ⟨g, o + 3, none⟩) hg).trans h3, (hb.cell (p := ⟨g, o + 4, none⟩) hg).trans h4, (hb.cell (p := ⟨g, o + 5, none⟩) hg).trans h5, (hb.cell (p := ⟨g, o + 6, none⟩) hg).trans h6, (hb.cell (p := ⟨g, o + 7, none⟩) hg).trans h7⟩
theorem rpc_at : ∀ (R : List Rp) (i : Nat) (h : i < R.length), ∀ j : Nat, j < 8 → (rpc R)[i * 8 + j]? = (rpCells R[i])[j]?
  | x :: r, 0, _, j, hj => by
    show (rpCells x ++ rpc r)[0 * 8 + j]? = _
    rw [Nat.zero_mul, Nat.zero_add, List.getElem?_append_left (by exact hj)]
    rfl
  | x :: r, i + 1, h, j, hj => by
    have := rpc_at r i (by simpa using h) j hj
    show (rpCells x ++ rpc r)[(i + 1) * 8 + j]? = _
    rw [List.getElem?_append_right (by show 8 ≤ _; omega), show (i + 1) * 8 + j - (rpCells x).length = i * 8 + j by show (i + 1) * 8 + j - 8 = _; omega]
    exact this
/-- Six reports in memory. -/
def Six (V : World) (g : Nat) : Prop := g < V.heap.size ∧ ∀ i < 6, ∃ r : Rp, At8 V g (i * 8) r ∧ El.RdIn V r.u r.L
theorem Six.of {V : World} {base g cap : Nat} {R : List Rp} (h : V.ownsRow base 26 8 (.slice (some ⟨g, 0, none⟩) 6 cap) 6 (rpc R)) (hn : R.length = 6) (hr : ∀ r ∈ R, El.RdIn V r.u r.L) : Six V g := by
  refine ⟨(h.lt g rfl).2, fun i hi => ⟨R[i]'(by omega), ?_, hr _ (List.getElem_mem _)⟩⟩
  have k : ∀ j < 8, V.cell? ⟨g, i * 8 + j, none⟩ = (rpCells (R[i]'(by omega)))[j]? := fun j hj => by
    rw [h.cellAt (i * 8 + j) (by omega)]
    exact rpc_at R i (by omega) j hj
  exact ⟨k 0 (by omega), k 1 (by omega), k 2 (by omega), k 3 (by omega), k 4 (by omega), k 5 (by omega), k 6 (by omega), k 7 (by omega)⟩
theorem cmp_k (a b : Rp) (k : Int) (V w : World) (ha : El.RdIn V a.u a.L) (hb : El.RdIn V b.u b.L) (hk : cR2 a b = k) (h : Below V.heap.size V w) :
    Calls Tryz.prog 30 #[a.v, b.v] w fun e w' => e = .returned (.int .i64 k) ∧ Below w.heap.size w w' := by
  have := compare_is a b V w ha hb h
  rw [hk] at this
  exact this
theorem same_k (a b : Rp) (k : Int) (s : Bool) (V w : World) (ha : El.RdIn V a.u a.L) (hb : El.RdIn V b.u b.L) (hk : cR2 a b = k) (hs : (k == 0) = s) (h : Below V.heap.size V w) :
    Calls Tryz.prog 28 #[a.v, b.v] w fun e w' => e = .returned (.bool s) ∧ Below w.heap.size w w' := by
  have := same_is a b V w ha hb h
  rw [hk, hs] at this
  exact this
theorem small_k (k : Int) (nm : ByteArray) (t F A B C : Int) (u : Value) (L : List El.Elt.R) (s : Bool) (w0 w : World) (hL : El.RdIn w0 u L) (hs : (decide (nm.size ≤ 40) && decide (L.length ≤ 40)) = s) (h : Below w0.heap.size w0 w) :
    Calls Tryz.prog 16 #[repV k nm t F A B C u] w fun e w' => e = .returned (.bool s) ∧ Below w.heap.size w w' := by
  have := small_any k nm t F A B C u L w (hL.under h)
  rw [hs] at this
  exact this
theorem half {V : World} {A : Option Addr} {L : List El.Elt.R} {c : Nat} (h : El.RdIn V (.slice A L.length c) L) : El.RdIn V (.slice A (L.length / 2) c) (L.take (L.length / 2)) := by
  obtain ⟨A', c', e, h1, h2, h3⟩ := h
  injection e with e1 _ e2
  subst e1; subst e2
  have hl : (L.take (L.length / 2)).length = L.length / 2 := by rw [List.length_take]; omega
  refine ⟨A, c, by rw [hl], by omega, h2, fun i hi => ?_⟩
  obtain ⟨g, off, q1, q2, q3, q4⟩ := h3 i (by omega)
  exact ⟨g, off, q1, q2, by rw [List.getElem_take]; exact q3, by rw [List.getElem_take]; exact q4⟩
theorem below_store {w5 V : World} {g cap j : Nat} {u : Value} {xs : List Value} (hb : Below w5.heap.size w5 V) (ho : V.ownsRow w5.heap.size 26 8 (.slice (some ⟨g, 0, none⟩) 6 cap) 6 xs)
    (h : (V.setCell ⟨g, j, none⟩ u).ownsRow w5.heap.size 26 8 (.slice (some ⟨g, 0, none⟩) 6 cap) 6 (xs.set j u) ∧ V.grownBy (V.setCell ⟨g, j, none⟩ u) (some g)) : Below w5.heap.size w5 (V.setCell ⟨g, j, none⟩ u) :=
  El.below_own hb hb.size ho h.2
set_option maxRecDepth 100000 in
set_option maxHeartbeats 8000000 in
theorem groupOrder_any (kx : Int) (nx : ByteArray) (tx fx ax qx cx : Int) (vx : Value) (Lx : List El.Elt.R) (ky : Int) (ny : ByteArray) (ty fy ay qy cy : Int) (vy : Value) (Ly : List El.Elt.R) (kz : Int) (nz : ByteArray) (tz fz az qz cz : Int) (vz : Value) (Lz : List El.Elt.R) (v : Value) (w : World) (hE : Env w) (hl : ListIn w v) (hx : El.RdIn w vx Lx) (hy : El.RdIn w vy Ly) (hz : El.RdIn w vz Lz) :
    Calls Tryz.prog 7 #[repV kx nx tx fx ax qx cx vx, repV ky ny ty fy ay qy cy vy, repV kz nz tz fz az qz cz vz, v] w fun e w' => e = .returned (.bool true) ∧ Below w.heap.size w w' := by
  obtain ⟨i0, hi, hz0, hz1, hz2⟩ := info_parts infoReport
  obtain ⟨Sx, ux, rfl, -⟩ := id hx
  obtain ⟨Sy, uy, rfl, -⟩ := id hy
  obtain ⟨Sz, uz, rfl, -⟩ := id hz
  have HE := Lib.hid hE; clear hE
  obtain ⟨sx, hsx⟩ : ∃ s, (decide (nx.size ≤ 40) && decide (Lx.length ≤ 40)) = s := ⟨_, rfl⟩
  obtain ⟨sy, hsy⟩ : ∃ s, (decide (ny.size ≤ 40) && decide (Ly.length ≤ 40)) = s := ⟨_, rfl⟩
  obtain ⟨sz, hsz⟩ : ∃ s, (decide (nz.size ≤ 40) && decide (Lz.length ≤ 40)) = s := ⟨_, rfl⟩
  have HX := Lib.hid (And.intro hx hsx); clear hx hsx
  have HY := Lib.hid (And.intro hy hsy); clear hy hsy
  have HZ := Lib.hid (And.intro hz hsz); clear hz hsz
  have HL := Lib.hid hl; clear hl
  have HI := Lib.hid (And.intro hi (And.intro hz0 (And.intro hz1 hz2))); clear hi hz0 hz1 hz2
  go_enter Tryz.func7, Tryz.ntmps7
  go_upto_region 1 with fail
  refine forget (fun Y => Below w.heap.size w Y ∧ Row Y w.heap.size 26 (repC kx nx tx fx ax qx cx (.slice Sx Lx.length ux)) ∧ Row Y (w.heap.size + 1) 26 (repC ky ny ty fy ay qy cy (.slice Sy Ly.length uy)) ∧ Row Y (w.heap.size + 1 + 1) 26 (repC kz nz tz fz az qz cz (.slice Sz Lz.length uz)))
    ⟨(((Below.refl _ _).alloc (Nat.le_refl _) _).alloc (by simp) _).alloc (by simp; omega) _, ((Row.new _ _ _).alloc _).alloc _, (Row.newAt (by simp)).alloc _, Row.newAt (by simp)⟩ ?_
  generalize w.heap.size + 1 + 1 = gz at *
  generalize w.heap.size + 1 = gy at *
  rintro Y ⟨bY, rx, ry, rz⟩
  obtain ⟨p0, p1, p2, p3, p4, p5, p6, p7⟩ := row8 rx
  go_wp2_with fail
  refine (small_k _ _ _ _ _ _ _ _ _ sx w _ HX.out.1 HX.out.2 bY).mono ?_
  rintro e w1 ⟨rfl, gY⟩
  replace bY := bY.trans (gY.mono bY.size)
  replace rx := rx.under gY
  replace ry := ry.under gY
  replace rz := rz.under gY
  clear p0 p1 p2 p3 p4 p5 p6 p7 gY
  cases sx
  · go_wp2_with fail
    refine (awake_from (w0 := w) _ (HE.out.under bY) bY).mono ?_
    rintro e w2 ⟨rfl, gQ⟩
    go_wp2_with fail
    go_ret
    exact ⟨rfl, gQ⟩
  obtain ⟨p0, p1, p2, p3, p4, p5, p6, p7⟩ := row8 ry
  go_wp2_with fail
  refine (small_k _ _ _ _ _ _ _ _ _ sy w _ HY.out.1 HY.out.2 bY).mono ?_
  rintro e w1 ⟨rfl, gY⟩
  replace bY := bY.trans (gY.mono bY.size)
  replace rx := rx.under gY
  replace ry := ry.under gY
  replace rz := rz.under gY
  clear p0 p1 p2 p3 p4 p5 p6 p7 gY
  cases sy
  · go_wp2_with fail
    refine (awake_from (w0 := w) _ (HE.out.under bY) bY).mono ?_
    rintro e w2 ⟨rfl, gQ⟩
    go_wp2_with fail
    go_ret
    exact ⟨rfl, gQ⟩
  obtain ⟨p0, p1, p2, p3, p4, p5, p6, p7⟩ := row8 rz
  go_wp2_with fail
  refine (small_k _ _ _ _ _ _ _ _ _ sz w _ HZ.out.1 HZ.out.2 bY).mono ?_
  rintro e w1 ⟨rfl, gY⟩
  replace bY := bY.trans (gY.mono bY.size)
  replace rx := rx.under gY
  replace ry := ry.under gY
  replace rz := rz.under gY
  clear p0 p1 p2 p3 p4 p5 p6 p7 gY
  cases sz
  · go_wp2_with fail
    refine (awake_from (w0 := w) _ (HE.out.under bY) bY).mono ?_
    rintro e w2 ⟨rfl, gQ⟩
    go_wp2_with fail
    go_ret
    exact ⟨rfl, gQ⟩
  go_wp2_with fail
  refine (new_any _ _ (HL.out.under bY)).mono ?_
  rintro e w2 ⟨rfl, s1, -⟩
  go_wp2_with fail
  refine (minute_any _ _ _ s1).mono ?_
  rintro e w3 ⟨m, ⟨m1, m2⟩, rfl, s2, -⟩
  go_upto_region 5 with fail
  have HXr := Lib.hid (HX.out.1.under bY)
  have HYr := Lib.hid (HY.out.1.under bY)
  have HZr := Lib.hid (HZ.out.1.under bY)
  have s3 : Src _ _ w3.drew := s2.under ⟨rfl, rfl, rfl, Nat.le_refl _, fun _ _ => rfl⟩
  have RX := Lib.hid rx
  have RY := Lib.hid ry
  have RZ := Lib.hid rz
  have BY := Lib.hid bY
  clear s1 s2 rx ry rz bY HX HY HZ HL
  generalize hdr : w3.drew = wd at *
  refine wp_region_held_drew (S := fun w' : World => (w'.cell? ⟨w.heap.size, 0, none⟩ = some (.int .i64 kx) ∧ w'.cell? ⟨w.heap.size, 1, none⟩ = some (.string nx) ∧ w'.cell? ⟨w.heap.size, 2, none⟩ = some (.int .i64 tx) ∧ w'.cell? ⟨w.heap.size, 3, none⟩ = some (.int .i64 fx) ∧ w'.cell? ⟨w.heap.size, 4, none⟩ = some (.int .i64 ax) ∧ w'.cell? ⟨w.heap.size, 5, none⟩ = some (.int .i64 qx) ∧ w'.cell? ⟨w.heap.size, 6, none⟩ = some (.int .i64 cx) ∧ w'.cell? ⟨w.heap.size, 7, none⟩ = some (.slice Sx Lx.length ux)) ∧ (w'.cell? ⟨gy, 0, none⟩ = some (.int .i64 ky) ∧ w'.cell? ⟨gy, 1, none⟩ = some (.string ny) ∧ w'.cell? ⟨gy, 2, none⟩ = some (.int .i64 ty) ∧ w'.cell? ⟨gy, 3, none⟩ = some (.int .i64 fy) ∧ w'.cell? ⟨gy, 4, none⟩ = some (.int .i64 ay) ∧ w'.cell? ⟨gy, 5, none⟩ = some (.int .i64 qy) ∧ w'.cell? ⟨gy, 6, none⟩ = some (.int .i64 cy) ∧ w'.cell? ⟨gy, 7, none⟩ = some (.slice Sy Ly.length uy)) ∧ (w'.cell? ⟨gz, 0, none⟩ = some (.int .i64 kz) ∧ w'.cell? ⟨gz, 1, none⟩ = some (.string nz) ∧ w'.cell? ⟨gz, 2, none⟩ = some (.int .i64 tz) ∧ w'.cell? ⟨gz, 3, none⟩ = some (.int .i64 fz) ∧ w'.cell? ⟨gz, 4, none⟩ = some (.int .i64 az) ∧ w'.cell? ⟨gz, 5, none⟩ = some (.int .i64 qz) ∧ w'.cell? ⟨gz, 6, none⟩ = some (.int .i64 cz) ∧ w'.cell? ⟨gz, 7, none⟩ = some (.slice Sz Lz.length uz))) (by kernel_rfl) (by rw [hdr]; exact ⟨row8 (RX.out.under s3.below), row8 (RY.out.under s3.below), row8 (RZ.out.under s3.below)⟩) (fun hHeld => ?_)
  rw [hdr] at *
  clear hdr
  refine wpAnyH_take (i := 0) (v := ?_) rfl (by kernel_rfl) (by kernel_rfl) (by kernel_rfl) (fun _ _ _ h => h) (Or.inl ⟨by rfl, ?_⟩) (by assumption) ?_
  case refine_2 => (intro wx hSx; (try dsimp only at hSx); go_simp; first | done | with_reducible rfl)
  try simp only [Act.put]
  refine wpAnyH_take (i := 1) (v := ?_) rfl (by kernel_rfl) (by kernel_rfl) (by kernel_rfl) (fun _ _ _ h => h) (Or.inl ⟨by rfl, ?_⟩) (by assumption) ?_
  case refine_2 => (intro wx hSx; (try dsimp only at hSx); go_simp; first | done | with_reducible rfl)
  try simp only [Act.put]
  refine wpAnyH_take (i := 2) (v := ?_) rfl (by kernel_rfl) (by kernel_rfl) (by kernel_rfl) (fun _ _ _ h => h) (Or.inl ⟨by rfl, ?_⟩) (by assumption) ?_
  case refine_2 => (intro wx hSx; (try dsimp only at hSx); go_simp; first | done | with_reducible rfl)
  try simp only [Act.put]
  refine wpAnyH_take (i := 3) (v := ?_) rfl (by kernel_rfl) (by kernel_rfl) (by kernel_rfl) (fun _ _ _ h => h) (Or.inl ⟨by rfl, ?_⟩) (by assumption) ?_
  case refine_2 => (intro wx hSx; (try dsimp only at hSx); go_simp; first | done | with_reducible rfl)
  try simp only [Act.put]
  refine wpAnyH_take (i := 4) (v := ?_) rfl (by kernel_rfl) (by kernel_rfl) (by kernel_rfl) (fun _ _ _ h => h) (Or.inl ⟨by rfl, ?_⟩) (by assumption) ?_
  case refine_2 => (intro wx hSx; (try dsimp only at hSx); go_simp; first | done | with_reducible rfl)
  try simp only [Act.put]
  refine wpAnyH_take (i := 6) (v := ?_) rfl (by kernel_rfl) (by kernel_rfl) (by kernel_rfl) (fun _ _ _ h => h) (Or.inl ⟨by rfl, ?_⟩) (by assumption) ?_
  case refine_2 => (intro wx hSx; (try dsimp only at hSx); go_simp; first | done | with_reducible rfl)
  try simp only [Act.put]
  refine wpAnyH_take (i := 7) (v := ?_) rfl (by kernel_rfl) (by kernel_rfl) (by kernel_rfl) (fun _ _ _ h => h) (Or.inl ⟨by rfl, ?_⟩) (by assumption) ?_
  case refine_2 => (intro wx hSx; (try dsimp only at hSx); go_simp; first | done | with_reducible rfl)
  try simp only [Act.put]
  refine wpAnyH_ready (rs := [5]) (by kernel_rfl) (by simp) ?_
  refine AllReadyH.cons (o := ⟨some 42, _, _, _, _, none⟩) rfl (fun K hK => ?_) AllReadyH.nil
  go_simp
  refine (report_any _ _ _ m s3 m1 m2).mono ?_
  rintro e w4 ⟨kd, nd, td, fd, ad, qd, cd, vd, Ld, -, -, rfl, hG⟩
  obtain ⟨Sd, ud, rfl, -⟩ := id (El.RdIn.own hG.own)
  go_wp2_with fail
  refine hK.out _ _ ⟨row8 (RX.out.under hG.src.below), row8 (RY.out.under hG.src.below), row8 (RZ.out.under hG.src.below)⟩ (fun hHeld2 => ?_)
  clear hK K hHeld s3
  try simp only [Act.put]
  refine wpAnyH_ready (rs := [8]) (by kernel_rfl) (by simp) ?_
  refine AllReadyH.cons (o := ⟨some 45, _, _, _, _, none⟩) rfl (fun K hK => ?_) AllReadyH.nil
  go_simp
  refine (report_any _ _ _ m hG.src m1 m2).mono ?_
  rintro e w5 ⟨ke, ne, te, fe, ae, qe, ce, ve, Le, -, -, rfl, hG2⟩
  obtain ⟨Se, ue, rfl, -⟩ := id (El.RdIn.own hG2.own)
  have hD := El.RdIn.own (hG.step hG2.src hG2.gro).own
  have hE' := El.RdIn.own hG2.own
  go_wp2_with fail
  refine hK.out _ _ ⟨row8 (RX.out.under hG2.src.below), row8 (RY.out.under hG2.src.below), row8 (RZ.out.under hG2.src.below)⟩ (fun hHeld3 => ?_)
  clear hK K hHeld2 hG
  try simp only [Act.put]
  refine wpAnyH_ready (rs := [9]) (by kernel_rfl) (by simp) ?_
  refine AllReadyH.cons (o := ⟨some 46, _, _, _, _, none⟩) rfl (fun K hK => ?_) AllReadyH.nil
  go_simp
  refine hK.out _ _ ⟨row8 ((RX.out.under hG2.src.below).alloc _), row8 ((RY.out.under hG2.src.below).alloc _), row8 ((RZ.out.under hG2.src.below).alloc _)⟩ (fun hHeld4 => ?_)
  clear hK K hHeld3
  try simp only [Act.put]
  refine wpAnyH_take (i := 10) (oi := ⟨some 11, _, _, _, _, none⟩) (v := ?_) rfl (by kernel_rfl) (by kernel_rfl) (by kernel_rfl) (fun _ _ _ h => h) (Or.inl ⟨by rfl, ?_⟩) (by assumption) ?_
  case refine_2 => (intro wx hSx; (try dsimp only at hSx); go_simp; first | done | with_reducible rfl)
  try simp only [Act.put]
  refine wpAnyH_done (by kernel_rfl) ?_ _
  have B5 := Lib.hid (BY.out.trans (hG2.src.below.mono BY.out.size))
  have DX := Lib.hid (HXr.out.under hG2.src.below)
  have DY := Lib.hid (HYr.out.under hG2.src.below)
  have DZ := Lib.hid (HZr.out.under hG2.src.below)
  have DD := Lib.hid hD
  have DE := Lib.hid hE'
  clear hHeld4 hG2 hD hE' HXr HYr HZr RX RY RZ BY m1 m2
  go_upto_region 6 with fail
  refine forget (fun V => Below w5.heap.size w5 V ∧ V.ownsRow w5.heap.size 26 8 (.slice (some ⟨w5.heap.size, 0, none⟩) 5 5) 5 (rpc [⟨kx, nx, tx, fx, ax, qx, cx, .slice Sx Lx.length ux, Lx⟩, ⟨ky, ny, ty, fy, ay, qy, cy, .slice Sy Ly.length uy, Ly⟩, ⟨kz, nz, tz, fz, az, qz, cz, .slice Sz Lz.length uz, Lz⟩, ⟨kd, nd, td, fd, ad, qd, cd, .slice Sd Ld.length ud, Ld⟩, ⟨ke, ne, te, fe, ae, qe, ce, .slice Se Le.length ue, Le⟩])) ⟨(Below.refl _ _).alloc (Nat.le_refl _) _, World.ownsRow_lit w5 #[.int .i64 kx, .string nx, .int .i64 tx, .int .i64 fx, .int .i64 ax, .int .i64 qx, .int .i64 cx, .slice Sx Lx.length ux, .int .i64 ky, .string ny, .int .i64 ty, .int .i64 fy, .int .i64 ay, .int .i64 qy, .int .i64 cy, .slice Sy Ly.length uy, .int .i64 kz, .string nz, .int .i64 tz, .int .i64 fz, .int .i64 az, .int .i64 qz, .int .i64 cz, .slice Sz Lz.length uz, .int .i64 kd, .string nd, .int .i64 td, .int .i64 fd, .int .i64 ad, .int .i64 qd, .int .i64 cd, .slice Sd Ld.length ud, .int .i64 ke, .string ne, .int .i64 te, .int .i64 fe, .int .i64 ae, .int .i64 qe, .int .i64 ce, .slice Se Le.length ue] 5 (Nat.le_refl _) (by decide) rfl⟩ ?_
  rintro V ⟨bV, oV⟩
  have p0 : V.cell? ⟨w5.heap.size, 24, none⟩ = some (.int .i64 kd) := (oV.cellAt 24 (by omega)).trans rfl
  have p1 : V.cell? ⟨w5.heap.size, 25, none⟩ = some (.string nd) := (oV.cellAt 25 (by omega)).trans rfl
  have p2 : V.cell? ⟨w5.heap.size, 26, none⟩ = some (.int .i64 td) := (oV.cellAt 26 (by omega)).trans rfl
  have p3 : V.cell? ⟨w5.heap.size, 27, none⟩ = some (.int .i64 fd) := (oV.cellAt 27 (by omega)).trans rfl
  have p4 : V.cell? ⟨w5.heap.size, 28, none⟩ = some (.int .i64 ad) := (oV.cellAt 28 (by omega)).trans rfl
  have p5 : V.cell? ⟨w5.heap.size, 29, none⟩ = some (.int .i64 qd) := (oV.cellAt 29 (by omega)).trans rfl
  have p6 : V.cell? ⟨w5.heap.size, 30, none⟩ = some (.int .i64 cd) := (oV.cellAt 30 (by omega)).trans rfl
  have p7 : V.cell? ⟨w5.heap.size, 31, none⟩ = some (.slice Sd Ld.length ud) := (oV.cellAt 31 (by omega)).trans rfl
  have O7 := Lib.hid (El.own_under oV ((Below.refl _ _).alloc (Nat.le_refl _) (.cells (repC kd nd td fd ad qd cd (.slice Sd Ld.length ud)) 26)))
  have B7 := Lib.hid (bV.alloc bV.size (.cells (repC kd nd td fd ad qd cd (.slice Sd Ld.length ud)) 26))
  clear bV oV
  go_wp2_with (at_builtin; refine wpList_append_lies _ rfl (.tmp 47) (.tmp 51) 35 rfl w5.heap.size 26 i0 _ 8 88 Tryz.underlying35 HI.out.1 HI.out.2.1 HI.out.2.2.1 HI.out.2.2.2 rfl (by decide) _ 5 (rpc [⟨kx, nx, tx, fx, ax, qx, cx, .slice Sx Lx.length ux, Lx⟩, ⟨ky, ny, ty, fy, ay, qy, cy, .slice Sy Ly.length uy, Ly⟩, ⟨kz, nz, tz, fz, az, qz, cz, .slice Sz Lz.length uz, Lz⟩, ⟨kd, nd, td, fd, ad, qd, cd, .slice Sd Ld.length ud, Ld⟩, ⟨ke, ne, te, fe, ae, qe, ce, .slice Se Le.length ue, Le⟩]) rfl O7.out ⟨V.heap.size, 0, none⟩ 1 1 [.int .i64 kd, .string nd, .int .i64 td, .int .i64 fd, .int .i64 ad, .int .i64 qd, .int .i64 cd, .slice Sd Ld.length ud] rfl rfl (World.news_of_block (cs := (repC kd nd td fd ad qd cd (.slice Sd Ld.length ud))) (t := 26) (fr := (0, 0)) (heap_alloc_new V _)) (by simp [Value.oneCell']) (by omega) (by unfold maxLen; omega) (by omega) B7.out.size (V.heap.size + 1) (by simp) ?_; intro g' cap' w8 hown8 hgrow8 hat8 hlt8; have B8 := Lib.hid (El.below_own B7.out B7.out.size O7.out hgrow8); have O8 := Lib.hid hown8; clear hown8 hgrow8 hat8 hlt8 p0 p1 p2 p3 p4 p5 p6 p7)
  go_upto_region 7 with fail
  refine forget (fun V => Below w5.heap.size w5 V ∧ V.ownsRow w5.heap.size 26 8 (.slice (some ⟨g', 0, none⟩) 6 cap') 6 (rpc [⟨kx, nx, tx, fx, ax, qx, cx, .slice Sx Lx.length ux, Lx⟩, ⟨ky, ny, ty, fy, ay, qy, cy, .slice Sy Ly.length uy, Ly⟩, ⟨kz, nz, tz, fz, az, qz, cz, .slice Sz Lz.length uz, Lz⟩, ⟨kd, nd, td, fd, ad, qd, cd, .slice Sd Ld.length ud, Ld⟩, ⟨ke, ne, te, fe, ae, qe, ce, .slice Se Le.length ue, Le⟩, ⟨kd, nd, td, fd, ad, qd, cd, .slice Sd Ld.length ud, Ld⟩])) ⟨B8.out, O8.out⟩ ?_
  clear B8 O8 O7 B7
  rintro V7 ⟨bV, oV⟩
  have p47 : V7.cell? ⟨g', 47, none⟩ = some (.slice Sd Ld.length ud) := (oV.cellAt 47 (by omega)).trans rfl
  have f47 := oV.frozenAt 47
  have x3 : IntKind.i64.wrap 5 = 5 := by decide
  obtain ⟨hLc, hcm⟩ : Ld.length ≤ ud ∧ ud ≤ 9223372036854775807 := by
    obtain ⟨A', c', e, h1, h2, -⟩ := DD.out
    injection e with _ _ e2
    subst e2
    exact ⟨h1, h2⟩
  obtain ⟨hd, hhd⟩ : ∃ h, Ld.length / 2 = h := ⟨_, rfl⟩
  have x4 : Int.tdiv (Ld.length : Int) 2 = (hd : Int) := by rw [← hhd]; rfl
  have HO := Lib.hid (oV.stored 47 (.slice Sd hd ud))
  have O7 := Lib.hid oV
  have B7 := Lib.hid bV
  have HH := Lib.hid hhd
  have h5 : hd ≤ ud := by omega
  have h6 : (hd : Int) ≤ (ud : Int) := by omega
  have h7 : (0 : Int) ≤ (hd : Int) := by omega
  have h8 : hd ≤ Ld.length := by omega
  have x5 : IntKind.i64.wrap (hd : Int) = (hd : Int) := IntWalk.i64_in _ (by omega)
  clear oV bV hhd
  go_cut [53] from 53 to 67 (fun _ wc => Below w5.heap.size w5 wc ∧ wc.ownsRow w5.heap.size 26 8 (.slice (some ⟨g', 0, none⟩) 6 cap') 6 (rpc [⟨kx, nx, tx, fx, ax, qx, cx, .slice Sx Lx.length ux, Lx⟩, ⟨ky, ny, ty, fy, ay, qy, cy, .slice Sy Ly.length uy, Ly⟩, ⟨kz, nz, tz, fz, az, qz, cz, .slice Sz Lz.length uz, Lz⟩, ⟨kd, nd, td, fd, ad, qd, cd, .slice Sd Ld.length ud, Ld⟩, ⟨ke, ne, te, fe, ae, qe, ce, .slice Se Le.length ue, Le⟩, ⟨kd, nd, td, fd, ad, qd, cd, .slice Sd hd ud, Ld.take hd⟩]))
  case first =>
    refine wp_region_held_drew (S := fun _ : World => True) (by kernel_rfl) trivial (fun hHeld => ?_)
    refine wpAnyH_take (i := 0) (v := ?_) rfl (by kernel_rfl) (by kernel_rfl) (by kernel_rfl) (fun _ _ _ h => h) (Or.inl ⟨by rfl, ?_⟩) (by assumption) ?_
    case refine_2 => (intro wx hSx; (try dsimp only at hSx); go_simp; first | done | with_reducible rfl)
    try simp only [Act.put]
    refine wpAnyH_take (i := 1) (v := ?_) rfl (by kernel_rfl) (by kernel_rfl) (by kernel_rfl) (fun _ _ _ h => h) (Or.inl ⟨by rfl, ?_⟩) (by assumption) ?_
    case refine_2 => (intro wx hSx; (try dsimp only at hSx); go_simp; first | done | with_reducible rfl)
    try simp only [Act.put]
    refine wpAnyH_take (i := 2) (v := ?_) rfl (by kernel_rfl) (by kernel_rfl) (by kernel_rfl) (fun _ _ _ h => h) (Or.inl ⟨by rfl, ?_⟩) (by assumption) ?_
    case refine_2 => (intro wx hSx; (try dsimp only at hSx); go_simp; first | done | with_reducible rfl)
    try simp only [Act.put]
    refine wpAnyH_take (i := 3) (v := ?_) rfl (by kernel_rfl) (by kernel_rfl) (by kernel_rfl) (fun _ _ _ h => h) (Or.inl ⟨by rfl, ?_⟩) (by assumption) ?_
    case refine_2 => (intro wx hSx; (try dsimp only at hSx); go_simp; first | done | with_reducible rfl)
    try simp only [Act.put]
    refine wpAnyH_take (i := 5) (v := ?_) rfl (by kernel_rfl) (by kernel_rfl) (by kernel_rfl) (fun _ _ _ h => h) (Or.inl ⟨by rfl, ?_⟩) (by assumption) ?_
    case refine_2 => (intro wx hSx; (try dsimp only at hSx); go_simp; first | done | with_reducible rfl)
    try simp only [Act.put]
    refine wpAnyH_take (i := 6) (v := ?_) rfl (by kernel_rfl) (by kernel_rfl) (by kernel_rfl) (fun _ _ _ h => h) (Or.inl ⟨by rfl, ?_⟩) (by assumption) ?_
    case refine_2 => (intro wx hSx; (try dsimp only at hSx); go_simp; first | done | with_reducible rfl)
    try simp only [Act.put]
    refine wpAnyH_take (i := 7) (v := ?_) rfl (by kernel_rfl) (by kernel_rfl) (by kernel_rfl) (fun _ _ _ h => h) (Or.inl ⟨by rfl, ?_⟩) (by assumption) ?_
    case refine_2 => (intro wx hSx; (try dsimp only at hSx); go_simp; first | done | with_reducible rfl)
    try simp only [Act.put]
    refine wpAnyH_ready (rs := [4, 8]) (by kernel_rfl) (by simp) ?_
    refine AllReadyH.cons (o := ⟨some 57, _, _, _, _, none⟩) rfl (fun K hK => ?_) (AllReadyH.cons (o := ⟨some 61, _, _, _, _, none⟩) rfl (fun K hK => ?_) AllReadyH.nil)
    · go_simp
      refine hK.out _ _ trivial (fun hHeld2 => ?_)
      clear hK K hHeld
      try simp only [Act.put]
      refine wpAnyH_ready (rs := [8]) (by kernel_rfl) (by simp) ?_
      refine AllReadyH.cons (o := ⟨some 61, _, _, _, _, none⟩) rfl (fun K hK => ?_) AllReadyH.nil
      go_simp
      refine hK.out _ _ trivial (fun hHeld3 => ?_)
      clear hK K hHeld2
      try simp only [Act.put]
      refine wpAnyH_take (i := 9) (v := ?_) rfl (by kernel_rfl) (by kernel_rfl) (by kernel_rfl) (fun _ _ _ h => h) (Or.inl ⟨by rfl, ?_⟩) (by assumption) ?_
      case refine_2 => (intro wx hSx; (try dsimp only at hSx); go_simp; first | done | with_reducible rfl)
      try simp only [Act.put]
      refine wpAnyH_take (i := 10) (v := ?_) rfl (by kernel_rfl) (by kernel_rfl) (by kernel_rfl) (fun _ _ _ h => h) (Or.inl ⟨by rfl, ?_⟩) (by assumption) ?_
      case refine_2 => (intro wx hSx; (try dsimp only at hSx); go_simp; first | done | with_reducible rfl)
      try simp only [Act.put]
      refine wpAnyH_take (i := 11) (v := ?_) rfl (by kernel_rfl) (by kernel_rfl) (by kernel_rfl) (fun _ _ _ h => h) (Or.inl ⟨by rfl, ?_⟩) (by assumption) ?_
      case refine_2 => (intro wx hSx; (try dsimp only at hSx); go_simp; first | done | with_reducible rfl)
      try simp only [Act.put]
      refine wpAnyH_take (i := 12) (v := ?_) rfl (by kernel_rfl) (by kernel_rfl) (by kernel_rfl) (fun _ _ _ h => h) (Or.inl ⟨by rfl, ?_⟩) (by assumption) ?_
      case refine_2 => (intro wx hSx; (try dsimp only at hSx); go_simp; first | done | with_reducible rfl)
      try simp only [Act.put]
      refine wpAnyH_take (i := 13) (v := ?_) rfl (by kernel_rfl) (by kernel_rfl) (by kernel_rfl) (fun _ _ _ h => h) (Or.inl ⟨by rfl, ?_⟩) (by assumption) ?_
      case refine_2 => (intro wx hSx; (try dsimp only at hSx); go_simp; first | done | with_reducible rfl)
      try simp only [Act.put]
      refine wpAnyH_ready (rs := [14]) (by kernel_rfl) (by simp) ?_
      refine AllReadyH.cons (o := ⟨none, _, _, _, _, none⟩) rfl (fun K hK => ?_) AllReadyH.nil
      go_simp
      refine hK.out _ _ trivial (fun hHeld4 => ?_)
      clear hK K hHeld3
      try simp only [Act.put]
      refine wpAnyH_done (by kernel_rfl) ?_ _
      go_wp2_with fail
      go_meet
      exact ⟨(below_store B7.out O7.out HO.out).drew, HO.out.1⟩
    · go_simp
      refine hK.out _ _ trivial (fun hHeld2 => ?_)
      clear hK K hHeld
      try simp only [Act.put]
      refine wpAnyH_take (i := 9) (v := ?_) rfl (by kernel_rfl) (by kernel_rfl) (by kernel_rfl) (fun _ _ _ h => h) (Or.inl ⟨by rfl, ?_⟩) (by assumption) ?_
      case refine_2 => (intro wx hSx; (try dsimp only at hSx); go_simp; first | done | with_reducible rfl)
      try simp only [Act.put]
      refine wpAnyH_take (i := 10) (v := ?_) rfl (by kernel_rfl) (by kernel_rfl) (by kernel_rfl) (fun _ _ _ h => h) (Or.inl ⟨by rfl, ?_⟩) (by assumption) ?_
      case refine_2 => (intro wx hSx; (try dsimp only at hSx); go_simp; first | done | with_reducible rfl)
      try simp only [Act.put]
      refine wpAnyH_ready (rs := [4]) (by kernel_rfl) (by simp) ?_
      refine AllReadyH.cons (o := ⟨some 57, _, _, _, _, none⟩) rfl (fun K hK => ?_) AllReadyH.nil
      go_simp
      refine hK.out _ _ trivial (fun hHeld3 => ?_)
      clear hK K hHeld2
      try simp only [Act.put]
      refine wpAnyH_take (i := 11) (oi := ⟨some 64, _, _, _, _, none⟩) (v := ?_) rfl (by kernel_rfl) (by kernel_rfl) (by kernel_rfl) (fun _ _ _ h => h) (Or.inl ⟨by rfl, ?_⟩) (by assumption) ?_
      case refine_2 => (intro wx hSx; (try dsimp only at hSx); go_simp; first | done | with_reducible rfl)
      try simp only [Act.put]
      refine wpAnyH_take (i := 12) (v := ?_) rfl (by kernel_rfl) (by kernel_rfl) (by kernel_rfl) (fun _ _ _ h => h) (Or.inl ⟨by rfl, ?_⟩) (by assumption) ?_
      case refine_2 => (intro wx hSx; (try dsimp only at hSx); go_simp; first | done | with_reducible rfl)
      try simp only [Act.put]
      refine wpAnyH_take (i := 13) (v := ?_) rfl (by kernel_rfl) (by kernel_rfl) (by kernel_rfl) (fun _ _ _ h => h) (Or.inl ⟨by rfl, ?_⟩) (by assumption) ?_
      case refine_2 => (intro wx hSx; (try dsimp only at hSx); go_simp; first | done | with_reducible rfl)
      try simp only [Act.put]
      refine wpAnyH_ready (rs := [14]) (by kernel_rfl) (by simp) ?_
      refine AllReadyH.cons (o := ⟨none, _, _, _, _, none⟩) rfl (fun K hK => ?_) AllReadyH.nil
      go_simp
      refine hK.out _ _ trivial (fun hHeld4 => ?_)
      clear hK K hHeld3
      try simp only [Act.put]
      refine wpAnyH_done (by kernel_rfl) ?_ _
      go_wp2_with fail
      go_meet
      exact ⟨(below_store B7.out O7.out HO.out).drew, HO.out.1⟩
  case rest =>
    clear p47 f47 HO O7 B7 x3 x4 x5 h7 h6
    have hS := Six.of hcut.2 rfl (by
      intro r hr
      simp only [List.mem_cons, List.not_mem_nil, or_false] at hr
      rcases hr with rfl | rfl | rfl | rfl | rfl | rfl
      · exact DX.out.under hcut.1
      · exact DY.out.under hcut.1
      · exact DZ.out.under hcut.1
      · exact DD.out.under hcut.1
      · exact DE.out.under hcut.1
      · have := half (DD.out.under hcut.1)
        rw [HH.out] at this
        exact this)
    have hBw := B5.out.trans (hcut.1.mono B5.out.size)
    clear hcut DX DY DZ DD DE B5 HH h5 h8 hLc hcm
    have HG := Lib.hid hS
    have BV := Lib.hid hBw
    clear hS hBw
    go_wp2_with fail
    go_loopw [69] (fun t wr => ∃ i : Nat, i ≤ 6 ∧ t = .int .i64 i ∧ Below wc.heap.size wc wr) (fun t _ => 6 - (intOf t).toNat)
    case atStart => exact ⟨0, by omega, rfl, Below.refl _ _⟩
    case round =>
      obtain ⟨i, hi, rfl, hB⟩ := hrel
      by_cases hlt : i < 6
      · skip
        have i0a : (0 : Int) ≤ (i : Int) := by omega
        have i1a : (i : Int) < 6 := by omega
        obtain ⟨⟨ka, na, ta, fa, aa, qa, ca, va, La⟩, hca, hra⟩ := HG.out.2 i hlt
        have hca' := hca.under HG.out.1 hB
        obtain ⟨Sa, ua, hva, -⟩ := id hra
        simp only at hva
        subst hva
        obtain ⟨p0, p1, p2, p3, p4, p5, p6, p7⟩ := hca'
        simp only at p0 p1 p2 p3 p4 p5 p6 p7
        have Ha := Lib.hid hra
        have HBa := Lib.hid hB
        clear hra hca hB
        go_upto_region 11 with fail
        refine forget (fun Y => Below wc.heap.size wc Y ∧ Row Y wr.heap.size 26 (repC ka na ta fa aa qa ca (.slice Sa La.length ua))) ⟨HBa.out.alloc HBa.out.size _, Row.new _ _ _⟩ ?_
        clear p0 p1 p2 p3 p4 p5 p6 p7 HBa i0a i1a
        generalize wr.heap.size = ga at *
        rintro Ya ⟨bY, ra⟩
        have BY := Lib.hid bY
        have RA := Lib.hid ra
        clear bY ra
        go_wp2_with fail
        go_loopw [75] (fun t wr => ∃ j : Nat, j ≤ 6 ∧ t = .int .i64 j ∧ Below wc.heap.size wc wr ∧ Row wr ga 26 (repC ka na ta fa aa qa ca (.slice Sa La.length ua))) (fun t _ => 6 - (intOf t).toNat)
        case atStart => exact ⟨0, by omega, rfl, BY.out, RA.out⟩
        case round =>
          clear BY RA
          obtain ⟨j, hj, rfl, hB, hA⟩ := hrel
          by_cases hlt2 : j < 6
          · skip
            have i0b : (0 : Int) ≤ (j : Int) := by omega
            have i1b : (j : Int) < 6 := by omega
            obtain ⟨⟨kb, nb, tb, fb, ab, qb, cb, vb, Lb⟩, hcb, hrb⟩ := HG.out.2 j hlt2
            have hcb' := hcb.under HG.out.1 hB
            obtain ⟨Sb, ub, hvb, -⟩ := id hrb
            simp only at hvb
            subst hvb
            obtain ⟨p0, p1, p2, p3, p4, p5, p6, p7⟩ := hcb'
            simp only at p0 p1 p2 p3 p4 p5 p6 p7
            have Hb := Lib.hid hrb
            have HBb := Lib.hid hB
            clear hrb hcb hB
            have HRa := Lib.hid hA
            clear hA
            go_upto_region 14 with fail
            refine forget (fun Y => Below wc.heap.size wc Y ∧ Row Y ga 26 (repC ka na ta fa aa qa ca (.slice Sa La.length ua)) ∧ Row Y wr.heap.size 26 (repC kb nb tb fb ab qb cb (.slice Sb Lb.length ub))) ⟨HBb.out.alloc HBb.out.size _, HRa.out.alloc _, Row.new _ _ _⟩ ?_
            clear p0 p1 p2 p3 p4 p5 p6 p7 HBb i0b i1b HRa
            generalize wr.heap.size = gb at *
            rintro Yb ⟨bY, ra, rb⟩
            obtain ⟨k, hk⟩ : ∃ k, cR2 ⟨ka, na, ta, fa, aa, qa, ca, .slice Sa La.length ua, La⟩ ⟨kb, nb, tb, fb, ab, qb, cb, .slice Sb Lb.length ub, Lb⟩ = k := ⟨_, rfl⟩
            obtain ⟨n, hn⟩ : ∃ n, cR2 ⟨kb, nb, tb, fb, ab, qb, cb, .slice Sb Lb.length ub, Lb⟩ ⟨ka, na, ta, fa, aa, qa, ca, .slice Sa La.length ua, La⟩ = n := ⟨_, rfl⟩
            have hr : k = -1 ∨ k = 0 ∨ k = 1 := hk ▸ cR2_rng _ _
            have hnk : n = -k := by rw [← hn, ← hk]; exact cR2_anti _ _
            have xn : IntKind.i64.wrap (-n) = k := by rw [hnk, Int.neg_neg]; exact IntWalk.i64_in _ (by omega)
            obtain ⟨sb, hsb⟩ : ∃ s, (k == 0) = s := ⟨_, rfl⟩
            have hl1 : ¬ k < -1 := by omega
            have hl2 : ¬ (1 : Int) < k := by omega
            have q1 : (k != k) = false := by simp
            have q2 : (sb != sb) = false := by cases sb <;> rfl
            have KAB := Lib.hid hk
            have KBA := Lib.hid hn
            have KS := Lib.hid hsb
            clear hk hn hr hnk
            obtain ⟨p0, p1, p2, p3, p4, p5, p6, p7⟩ := row8 ra
            obtain ⟨d0, d1, d2, d3, d4, d5, d6, d7⟩ := row8 rb
            go_wp2_with fail
            refine (cmp_k ⟨ka, na, ta, fa, aa, qa, ca, .slice Sa La.length ua, La⟩ ⟨kb, nb, tb, fb, ab, qb, cb, .slice Sb Lb.length ub, Lb⟩ k wc _ Ha.out Hb.out KAB.out bY).mono ?_
            rintro e wz ⟨rfl, gY⟩
            replace bY := bY.trans (gY.mono bY.size)
            replace ra := ra.under gY
            replace rb := rb.under gY
            clear gY p0 p1 p2 p3 p4 p5 p6 p7 d0 d1 d2 d3 d4 d5 d6 d7
            obtain ⟨p0, p1, p2, p3, p4, p5, p6, p7⟩ := row8 ra
            obtain ⟨d0, d1, d2, d3, d4, d5, d6, d7⟩ := row8 rb
            go_wp2_with fail
            refine (cmp_k ⟨kb, nb, tb, fb, ab, qb, cb, .slice Sb Lb.length ub, Lb⟩ ⟨ka, na, ta, fa, aa, qa, ca, .slice Sa La.length ua, La⟩ n wc _ Hb.out Ha.out KBA.out bY).mono ?_
            rintro e wz ⟨rfl, gY⟩
            replace bY := bY.trans (gY.mono bY.size)
            replace ra := ra.under gY
            replace rb := rb.under gY
            clear gY p0 p1 p2 p3 p4 p5 p6 p7 d0 d1 d2 d3 d4 d5 d6 d7
            obtain ⟨p0, p1, p2, p3, p4, p5, p6, p7⟩ := row8 ra
            obtain ⟨d0, d1, d2, d3, d4, d5, d6, d7⟩ := row8 rb
            go_wp2_with fail
            refine (same_k ⟨ka, na, ta, fa, aa, qa, ca, .slice Sa La.length ua, La⟩ ⟨kb, nb, tb, fb, ab, qb, cb, .slice Sb Lb.length ub, Lb⟩ k sb wc _ Ha.out Hb.out KAB.out KS.out bY).mono ?_
            rintro e wz ⟨rfl, gY⟩
            replace bY := bY.trans (gY.mono bY.size)
            replace ra := ra.under gY
            replace rb := rb.under gY
            clear gY p0 p1 p2 p3 p4 p5 p6 p7 d0 d1 d2 d3 d4 d5 d6 d7
            have BY := Lib.hid bY
            have RA := Lib.hid ra
            have RB := Lib.hid rb
            clear bY ra rb
            go_wp2_with fail
            clear q1 q2 hl1 hl2 hsb xn KS KBA
            go_loopw [106] (fun t wr => ∃ l : Nat, l ≤ 6 ∧ t = .int .i64 l ∧ Below wc.heap.size wc wr ∧ Row wr ga 26 (repC ka na ta fa aa qa ca (.slice Sa La.length ua)) ∧ Row wr gb 26 (repC kb nb tb fb ab qb cb (.slice Sb Lb.length ub))) (fun t _ => 6 - (intOf t).toNat)
            case atStart => exact ⟨0, by omega, rfl, BY.out, RA.out, RB.out⟩
            case round =>
              clear BY RA RB
              obtain ⟨l, hl, rfl, hB, hA, hBb⟩ := hrel
              by_cases hlt3 : l < 6
              · skip
                have i0c : (0 : Int) ≤ (l : Int) := by omega
                have i1c : (l : Int) < 6 := by omega
                obtain ⟨⟨kc, nc, tc, fc, ac, qc, cc, vc, Lc⟩, hcc, hrc⟩ := HG.out.2 l hlt3
                have hcc' := hcc.under HG.out.1 hB
                obtain ⟨Sc, uc, hvc, -⟩ := id hrc
                simp only at hvc
                subst hvc
                obtain ⟨p0, p1, p2, p3, p4, p5, p6, p7⟩ := hcc'
                simp only at p0 p1 p2 p3 p4 p5 p6 p7
                have Hc := Lib.hid hrc
                have HBc := Lib.hid hB
                clear hrc hcc hB
                have HRa := Lib.hid hA
                clear hA
                have HRb := Lib.hid hBb
                clear hBb
                go_upto_region 20 with fail
                refine forget (fun Y => Below wc.heap.size wc Y ∧ Row Y ga 26 (repC ka na ta fa aa qa ca (.slice Sa La.length ua)) ∧ Row Y gb 26 (repC kb nb tb fb ab qb cb (.slice Sb Lb.length ub)) ∧ Row Y wr.heap.size 26 (repC kc nc tc fc ac qc cc (.slice Sc Lc.length uc))) ⟨HBc.out.alloc HBc.out.size _, HRa.out.alloc _, HRb.out.alloc _, Row.new _ _ _⟩ ?_
                clear p0 p1 p2 p3 p4 p5 p6 p7 HBc i0c i1c HRa HRb
                generalize wr.heap.size = gc at *
                rintro Yc ⟨bY, ra, rb, rc⟩
                by_cases hk0 : k ≤ 0
                · obtain ⟨n1, hn1⟩ : ∃ n, cR2 ⟨kb, nb, tb, fb, ab, qb, cb, .slice Sb Lb.length ub, Lb⟩ ⟨kc, nc, tc, fc, ac, qc, cc, .slice Sc Lc.length uc, Lc⟩ = n := ⟨_, rfl⟩
                  obtain ⟨n2, hn2⟩ : ∃ n, cR2 ⟨ka, na, ta, fa, aa, qa, ca, .slice Sa La.length ua, La⟩ ⟨kc, nc, tc, fc, ac, qc, cc, .slice Sc Lc.length uc, Lc⟩ = n := ⟨_, rfl⟩
                  by_cases h1 : n1 ≤ 0
                  · have h2 : ¬ (0 : Int) < n2 := by
                      have := cR2_le (a := ⟨ka, na, ta, fa, aa, qa, ca, .slice Sa La.length ua, La⟩) (b := ⟨kb, nb, tb, fb, ab, qb, cb, .slice Sb Lb.length ub, Lb⟩) (c := ⟨kc, nc, tc, fc, ac, qc, cc, .slice Sc Lc.length uc, Lc⟩) (by rw [KAB.out]; exact hk0) (by rw [hn1]; exact h1)
                      rw [hn2] at this
                      omega
                    have K1 := Lib.hid hn1
                    have K2 := Lib.hid hn2
                    clear hn1 hn2
                    obtain ⟨p0, p1, p2, p3, p4, p5, p6, p7⟩ := row8 rb
                    obtain ⟨d0, d1, d2, d3, d4, d5, d6, d7⟩ := row8 rc
                    go_wp2_with fail
                    refine (cmp_k ⟨kb, nb, tb, fb, ab, qb, cb, .slice Sb Lb.length ub, Lb⟩ ⟨kc, nc, tc, fc, ac, qc, cc, .slice Sc Lc.length uc, Lc⟩ n1 wc _ Hb.out Hc.out K1.out bY).mono ?_
                    rintro e wz ⟨rfl, gY⟩
                    replace bY := bY.trans (gY.mono bY.size)
                    replace ra := ra.under gY
                    replace rb := rb.under gY
                    replace rc := rc.under gY
                    clear gY p0 p1 p2 p3 p4 p5 p6 p7 d0 d1 d2 d3 d4 d5 d6 d7
                    obtain ⟨p0, p1, p2, p3, p4, p5, p6, p7⟩ := row8 ra
                    obtain ⟨d0, d1, d2, d3, d4, d5, d6, d7⟩ := row8 rc
                    go_wp2_with fail
                    refine (cmp_k ⟨ka, na, ta, fa, aa, qa, ca, .slice Sa La.length ua, La⟩ ⟨kc, nc, tc, fc, ac, qc, cc, .slice Sc Lc.length uc, Lc⟩ n2 wc _ Ha.out Hc.out K2.out bY).mono ?_
                    rintro e wz ⟨rfl, gY⟩
                    replace bY := bY.trans (gY.mono bY.size)
                    replace ra := ra.under gY
                    replace rb := rb.under gY
                    replace rc := rc.under gY
                    clear gY p0 p1 p2 p3 p4 p5 p6 p7 d0 d1 d2 d3 d4 d5 d6 d7
                    go_wp2_with fail
                    go_roundw
                    case rel => exact ⟨l + 1, by omega, by go_num, bY, ra, rb⟩
                    case measure => simp [intOf]; omega
                  · have K1 := Lib.hid hn1
                    clear hn1 hn2
                    obtain ⟨p0, p1, p2, p3, p4, p5, p6, p7⟩ := row8 rb
                    obtain ⟨d0, d1, d2, d3, d4, d5, d6, d7⟩ := row8 rc
                    go_wp2_with fail
                    refine (cmp_k ⟨kb, nb, tb, fb, ab, qb, cb, .slice Sb Lb.length ub, Lb⟩ ⟨kc, nc, tc, fc, ac, qc, cc, .slice Sc Lc.length uc, Lc⟩ n1 wc _ Hb.out Hc.out K1.out bY).mono ?_
                    rintro e wz ⟨rfl, gY⟩
                    replace bY := bY.trans (gY.mono bY.size)
                    replace ra := ra.under gY
                    replace rb := rb.under gY
                    replace rc := rc.under gY
                    clear gY p0 p1 p2 p3 p4 p5 p6 p7 d0 d1 d2 d3 d4 d5 d6 d7
                    go_wp2_with fail
                    go_roundw
                    case rel => exact ⟨l + 1, by omega, by go_num, bY, ra, rb⟩
                    case measure => simp [intOf]; omega
                · skip
                  go_wp2_with fail
                  go_roundw
                  case rel => exact ⟨l + 1, by omega, by go_num, bY, ra, rb⟩
                  case measure => simp [intOf]; omega
              · have k3 : ¬ (l : Int) < 6 := by omega
                have BY := Lib.hid hB
                have RA := Lib.hid hA
                clear hB hA hBb
                go_wp2_with fail
                go_roundw
                case rel => exact ⟨j + 1, by omega, by go_num, BY.out, RA.out⟩
                case measure => simp [intOf]; omega
          · have k2 : ¬ (j : Int) < 6 := by omega
            have BY := Lib.hid hB
            clear hB hA
            go_wp2_with fail
            go_roundw
            case rel => exact ⟨i + 1, by omega, by go_num, BY.out⟩
            case measure => simp [intOf]; omega
      · have k1 : ¬ (i : Int) < 6 := by omega
        have BW := Lib.hid (BV.out.trans (hB.mono BV.out.size))
        clear hB
        go_wp2_with fail
        refine (awake_from (w0 := w) _ (HE.out.under BW.out) BW.out).mono ?_
        rintro e w2 ⟨rfl, gQ⟩
        go_wp2_with fail
        go_ret
        exact ⟨rfl, gQ⟩
end Go.Proofs.YtkdjmgdgpbmmpaaGreatDoor
