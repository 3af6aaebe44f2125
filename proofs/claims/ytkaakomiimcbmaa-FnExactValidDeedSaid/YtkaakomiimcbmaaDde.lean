/- The law on ValidDeed, walked from the contracts of its two calls. -/
import Derived.Test.YtkaakomiimcbmaaDdd
import Derived.Test.YtkaakomiimcbmaaOpenDd
namespace Go.Proofs.Ytkaakomiimcbmaa
open Go.ChangeShapes Go.WideShapes Go.ChangeAt Go.RowKit Go.Deep
set_option linter.unusedSimpArgs false
set_option linter.unusedVariables false
/-- Two deeds' boxes in a world behind w0. -/
def Bdd (w0 : World) (p p' : Nat) (X : Dd) (q1 q2 r1 r2 : Value) (w' : World) : Prop := w'.cell? ⟨p, 0, none⟩ = some (.int .i64 X.k) ∧ w'.cell? ⟨p, 1, none⟩ = some (.int .i64 X.m) ∧ w'.cell? ⟨p, 2, none⟩ = some (q1) ∧ w'.cell? ⟨p, 3, none⟩ = some (.string X.n) ∧ w'.cell? ⟨p, 4, none⟩ = some (.int .i64 X.v) ∧ w'.cell? ⟨p, 5, none⟩ = some (q2) ∧ w'.cell? ⟨p, 6, none⟩ = some (.int .i64 X.f) ∧ w'.cell? ⟨p, 7, none⟩ = some (.int .i64 X.u) ∧ w'.cell? ⟨p, 8, none⟩ = some (.int .i64 X.c) ∧ w'.cell? ⟨p', 0, none⟩ = some (.int .i64 X.k) ∧ w'.cell? ⟨p', 1, none⟩ = some (.int .i64 X.m) ∧ w'.cell? ⟨p', 2, none⟩ = some (r1) ∧ w'.cell? ⟨p', 3, none⟩ = some (.string X.n) ∧ w'.cell? ⟨p', 4, none⟩ = some (.int .i64 X.v) ∧ w'.cell? ⟨p', 5, none⟩ = some (r2) ∧ w'.cell? ⟨p', 6, none⟩ = some (.int .i64 X.f) ∧ w'.cell? ⟨p', 7, none⟩ = some (.int .i64 X.u) ∧ w'.cell? ⟨p', 8, none⟩ = some (.int .i64 X.c) ∧ Hid (Below w0.heap.size w0 w')
theorem Bdd.bel {w0 w' : World} {p p' : Nat} {X : Dd} {q1 q2 r1 r2 : Value} (h : Bdd w0 p p' X q1 q2 r1 r2 w') : Below w0.heap.size w0 w' := by
  obtain ⟨-, -, -, -, -, -, -, -, -, -, -, -, -, -, -, -, -, -, g⟩ := h
  exact g.out
theorem Bdd.drew {w0 w' : World} {p p' : Nat} {X : Dd} {q1 q2 r1 r2 : Value} (h : Bdd w0 p p' X q1 q2 r1 r2 w') : Bdd w0 p p' X q1 q2 r1 r2 w'.drew := by
  obtain ⟨a, b, c, d, e, f, g, h, i, j, k, l, m, n, o, q, r, s, t⟩ := h
  exact ⟨a, b, c, d, e, f, g, h, i, j, k, l, m, n, o, q, r, s, Lib.hid t.out.drew⟩
theorem Bdd.below {w0 w' w'' : World} {p p' : Nat} {X : Dd} {q1 q2 r1 r2 : Value} (h : Bdd w0 p p' X q1 q2 r1 r2 w') (hb : Below w'.heap.size w' w'') : Bdd w0 p p' X q1 q2 r1 r2 w'' := by
  obtain ⟨a, b, c, d, e, f, g, h, i, j, k, l, m, n, o, q, r, s, t⟩ := h
  have y : ∀ {b : Nat} {o : Nat} {v : Value}, w'.cell? ⟨b, o, none⟩ = some v → w''.cell? ⟨b, o, none⟩ = some v := fun {b o v} hc => (hb.cell (p := ⟨b, o, none⟩) (World.block_lt_of_cell? _ _ hc)).trans hc
  exact ⟨y a, y b, y c, y d, y e, y f, y g, y h, y i, y j, y k, y l, y m, y n, y o, y q, y r, y s, Lib.hid (t.out.trans (hb.mono t.out.size))⟩
set_option maxHeartbeats 8000000 in
set_option maxRecDepth 100000 in
theorem lawValidDeed (v0 : Value) (X : Dd) (w : World) (h0 : ListDd w v0 X) (rm0 : RoomDw X) :
    Calls Try.prog 3 #[v0] w fun e w' => e = .returned (.bool true) ∧ Below w.heap.size w w' := by
  obtain ⟨qt, qp, rfl, h1, h2⟩ := h0
  obtain ⟨rm, hwf⟩ := rm0
  obtain ⟨r0, hm⟩ : ∃ p, dB X = p := ⟨_, rfl⟩
  have HS : ∀ w' lo0 hi0 u0 (c0 : CpDd w' lo0 hi0 u0 X), Calls Try.prog 5 #[u0] w' (Pb r0 w') := fun w' lo0 hi0 u0 c0 => by have q := sVD X w' lo0 hi0 u0 c0; rw [hm] at q; exact q
  have HI : ∀ w' lo0 hi0 u0 (c0 : CpDd w' lo0 hi0 u0 X), Calls Try.prog 7 #[u0] w' (Pb r0 w') := fun w' lo0 hi0 u0 c0 => by have q := iVD X w' lo0 hi0 u0 c0 hwf; rw [hm] at q; exact q
  clear hm
  have ba := (Below.refl w.heap.size w).alloc (Nat.le_refl _) (.cells #[.int .i64 X.k, .int .i64 X.m, qt, .string X.n, .int .i64 X.v, qp, .int .i64 X.f, .int .i64 X.u, .int .i64 X.c] 25)
  have hpa : DdAt (w.alloc (.cells #[.int .i64 X.k, .int .i64 X.m, qt, .string X.n, .int .i64 X.v, qp, .int .i64 X.f, .int .i64 X.u, .int .i64 X.c] 25)) w.heap.size X qt qp := ⟨by go_simp, by go_simp, by go_simp, by go_simp, by go_simp, by go_simp, by go_simp, by go_simp, by go_simp, by simp⟩
  have HZ := szDd X qt qp 1048576 _ (h1.below ba) (h2.below ba) rm (by omega) (by omega)
  unfold ddV at HZ ⊢
  go_enter Try.func3, Try.ntmps3
  have b1 := ba
  go_wp2_with fail
  refine HZ.mono ?_
  rintro e w2 ⟨⟨r, rfl, z1, z2, z3⟩, hb2⟩
  have Z3 := Lib.hid z3
  clear z3
  have b2 := b1.trans (hb2.mono b1.size)
  by_cases hneg : r < 0
  · go_wp2
    go_ret
    exact ⟨rfl, b2⟩
  have hf := Z3.out (by omega)
  clear HZ Z3
  have HT0 := fun w' (hw : Below w.heap.size w w') => toCpDd (ddV X qt qp) X w' ⟨qt, qp, rfl, h1.below hw, h2.below hw⟩ hf
  unfold ddV at HT0
  have hp2 := hpa.below hb2
  obtain ⟨k0, k1, k2, k3, k4, k5, k6, k7, k8, -⟩ := hp2
  go_wp2_with fail
  refine (HT0 _ b2).mono ?_
  rintro e w3 ⟨x1, rfl, hx1, hb3⟩
  have b3 := b2.trans (hb3.mono b2.size)
  clear k0 k1 k2 k3 k4 k5 k6 k7 k8
  go_wp2_with fail
  refine (HS _ _ _ _ hx1).mono ?_
  intro e w4 hp
  obtain ⟨rfl, hb4⟩ := hp.out
  have b4 := b3.trans (hb4.mono b3.size)
  have hp4 := ((hpa.below hb2).below hb3).below hb4
  obtain ⟨k0, k1, k2, k3, k4, k5, k6, k7, k8, -⟩ := hp4
  clear hx1 HS
  go_wp2_with fail
  refine (HT0 _ b4).mono ?_
  rintro e w5 ⟨x2, rfl, hx2, hb5⟩
  have b5 := b4.trans (hb5.mono b4.size)
  obtain ⟨ct, cp, rfl, u1, u2, u3, u4, u5⟩ := hx2
  have hx2 : CpDd w5 w4.heap.size w5.heap.size (ddR X ct cp) X := ⟨ct, cp, rfl, u1, u2, u3, u4, u5⟩
  unfold ddR ddV at hx2 ⊢
  have bal := (Below.refl w5.heap.size w5).alloc (Nat.le_refl _) (.cells #[.int .i64 X.k, .int .i64 X.m, (.slice (some ⟨ct, 0, none⟩) X.t.length X.t.length), .string X.n, .int .i64 X.v, (.slice (some ⟨cp, 0, none⟩) X.p.length X.p.length), .int .i64 X.f, .int .i64 X.u, .int .i64 X.c] 30)
  have hpx : DdAt (w5.alloc (.cells #[.int .i64 X.k, .int .i64 X.m, (.slice (some ⟨ct, 0, none⟩) X.t.length X.t.length), .string X.n, .int .i64 X.v, (.slice (some ⟨cp, 0, none⟩) X.p.length X.p.length), .int .i64 X.f, .int .i64 X.u, .int .i64 X.c] 30)) w5.heap.size X (.slice (some ⟨ct, 0, none⟩) X.t.length X.t.length) (.slice (some ⟨cp, 0, none⟩) X.p.length X.p.length) := ⟨by go_simp, by go_simp, by go_simp, by go_simp, by go_simp, by go_simp, by go_simp, by go_simp, by go_simp, by simp⟩
  have b6 := b5.trans (bal.mono b5.size)
  clear k0 k1 k2 k3 k4 k5 k6 k7 k8
  go_wp2_with fail
  refine (HI _ _ _ _ (hx2.below bal)).mono ?_
  intro e w7 hp
  obtain ⟨rfl, hb7⟩ := hp.out
  have b7 := b6.trans (hb7.mono b6.size)
  have pa7 := (((((hpa.below hb2).below hb3).below hb4).below hb5).below bal).below hb7
  have px7 := hpx.below hb7
  have ot := (u3.below bal).below hb7
  have op := (u4.below bal).below hb7
  have bs7 : Hid (Bdd w7 w.heap.size w5.heap.size X qt qp (.slice (some ⟨ct, 0, none⟩) X.t.length X.t.length) (.slice (some ⟨cp, 0, none⟩) X.p.length X.p.length) w7) := Lib.hid ⟨pa7.c0, pa7.c1, pa7.c2, pa7.c3, pa7.c4, pa7.c5, pa7.c6, pa7.c7, pa7.c8, px7.c0, px7.c1, px7.c2, px7.c3, px7.c4, px7.c5, px7.c6, px7.c7, px7.c8, Lib.hid (Below.refl _ _)⟩
  obtain ⟨k0, k1, k2, k3, k4, k5, k6, k7, k8, -⟩ := pa7
  obtain ⟨j0, j1, j2, j3, j4, j5, j6, j7, j8, -⟩ := px7
  clear hpa hpx hb2 hb3 hb4 hb5 bal hb7 HI hx2 u3 u4
  go_wp2_with fail
  go_region_held3 (fun w' => w'.cell? ⟨w.heap.size, 0, none⟩ = some (.int .i64 X.k) ∧ w'.cell? ⟨w.heap.size, 1, none⟩ = some (.int .i64 X.m) ∧ w'.cell? ⟨w.heap.size, 2, none⟩ = some (qt) ∧ w'.cell? ⟨w.heap.size, 3, none⟩ = some (.string X.n) ∧ w'.cell? ⟨w.heap.size, 4, none⟩ = some (.int .i64 X.v) ∧ w'.cell? ⟨w.heap.size, 5, none⟩ = some (qp) ∧ w'.cell? ⟨w.heap.size, 6, none⟩ = some (.int .i64 X.f) ∧ w'.cell? ⟨w.heap.size, 7, none⟩ = some (.int .i64 X.u) ∧ w'.cell? ⟨w.heap.size, 8, none⟩ = some (.int .i64 X.c) ∧ w'.cell? ⟨w5.heap.size, 0, none⟩ = some (.int .i64 X.k) ∧ w'.cell? ⟨w5.heap.size, 1, none⟩ = some (.int .i64 X.m) ∧ w'.cell? ⟨w5.heap.size, 2, none⟩ = some ((.slice (some ⟨ct, 0, none⟩) X.t.length X.t.length)) ∧ w'.cell? ⟨w5.heap.size, 3, none⟩ = some (.string X.n) ∧ w'.cell? ⟨w5.heap.size, 4, none⟩ = some (.int .i64 X.v) ∧ w'.cell? ⟨w5.heap.size, 5, none⟩ = some ((.slice (some ⟨cp, 0, none⟩) X.p.length X.p.length)) ∧ w'.cell? ⟨w5.heap.size, 6, none⟩ = some (.int .i64 X.f) ∧ w'.cell? ⟨w5.heap.size, 7, none⟩ = some (.int .i64 X.u) ∧ w'.cell? ⟨w5.heap.size, 8, none⟩ = some (.int .i64 X.c) ∧ Hid (Below w7.heap.size w7 w'))
    (first | exact (Hid.out bs7).drew | exact Hid.out (by assumption))
    (first
      | (go_at_call 6; have hcur : Bdd w7 w.heap.size w5.heap.size X qt qp _ _ _ := (by assumption); refine (HT0 _ (b7.trans (hcur.bel.mono b7.size))).mono ?_; rintro e wt ⟨x3, rfl, hx3, hbt⟩; obtain ⟨ct3, cp3, rfl, y1, y2, y3, y4, y5⟩ := hx3; have hB : Hid (Bdd w7 w.heap.size w5.heap.size X qt qp _ _ wt) := Lib.hid (hcur.below hbt))
      | (go_at_call 8; have hcur : Bdd w7 w.heap.size w5.heap.size X qt qp _ _ _ := (by assumption); refine (eqDd X _ _ _ _ _ (OwnI.below ot hcur.bel) (Es.below op hcur.bel) (by assumption) (by assumption) hf).mono ?_; rintro e w8 ⟨rfl, hbt2⟩; have hB2 : Hid (Bdd w7 w.heap.size w5.heap.size X qt qp _ _ w8) := Lib.hid (hcur.below hbt2); have hb8 := (Hid.out hB2).bel))
  all_goals
    have b8 := b7.trans (hb8.mono b7.size)
    go_wp2
    go_ret
    exact ⟨rfl, b8⟩
end Go.Proofs.Ytkaakomiimcbmaa
