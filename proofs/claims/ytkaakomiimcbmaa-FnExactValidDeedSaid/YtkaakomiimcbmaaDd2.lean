/- Deeds: their size; two copies compared; the kind of value. -/
import Derived.Test.YtkaakomiimcbmaaDd1
namespace Go.Proofs.Ytkaakomiimcbmaa
open Go.ChangeShapes Go.WideShapes Go.ChangeAt Go.RowKit Go.Deep
set_option linter.unusedSimpArgs false
set_option linter.unusedVariables false
set_option maxHeartbeats 2000000 in
set_option maxRecDepth 100000 in
theorem szDd (X : Dd) (vt vp : Value) (left : Int) (w : World) (ht : RowV w vt X.t) (hp : ListE w vp X.p) (hr : RoomDd X) (h1 : 0 ≤ left) (h2 : left ≤ 1048576) :
    Calls Try.prog 4 #[ddV X vt vp, .int .i64 left] w fun e w' => (∃ r, e = .returned (.int .i64 r) ∧ -1 ≤ r ∧ r ≤ 1048576 ∧ (0 ≤ r → FitsDd X)) ∧ Below w.heap.size w w' := by
  obtain ⟨xk, xm, xt, xn, xv, xp, xf, xu, xc⟩ := X
  obtain ⟨r1, r2, r3⟩ := hr
  simp only at ht hp r1 r2 r3
  unfold ddV
  simp only
  have b1 := (Below.refl w.heap.size w).alloc (Nat.le_refl _) (.cells #[.int .i64 xk, .int .i64 xm, vt, .string xn, .int .i64 xv, vp, .int .i64 xf, .int .i64 xu, .int .i64 xc] 25)
  have HI := szI vt xt left _ (ht.below b1) r1 h1 h2
  have HE := fun z (z1 : 0 ≤ z) (z2 : z ≤ 1048576) => szES vp xp z _ (hp.below b1) r3 z1 z2
  obtain ⟨z, hz⟩ : ∃ z, szOf xt.length left = z := ⟨_, rfl⟩
  have hzr : -1 ≤ z ∧ z ≤ 1048576 ∧ (z < 0 → z = -1) ∧ (0 ≤ z → xt.length ≤ 1048576) := by rw [← hz]; unfold szOf; split <;> omega
  rw [hz] at HI
  obtain ⟨z1, z2, z3, z4⟩ := hzr
  have Z4 := Lib.hid z4
  clear hz z4 ht hp r3
  by_cases hneg : z < 0
  · obtain rfl := z3 hneg
    go_enter Try.func4, Try.ntmps4
    go_wp2_with fail
    refine HI.mono ?_
    rintro e w1 ⟨rfl, rfl⟩
    go_wp2
    go_ret
    exact ⟨⟨-1, rfl, by omega, by omega, fun h => absurd h (by omega)⟩, b1⟩
  · by_cases hneg2 : z - xn.size < 0
    · go_enter Try.func4, Try.ntmps4
      go_wp2_with fail
      refine HI.mono ?_
      rintro e w1 ⟨rfl, rfl⟩
      go_wp2
      go_ret
      exact ⟨⟨-1, rfl, by omega, by omega, fun h => absurd h (by omega)⟩, b1⟩
    · have HE1 := HE (z - xn.size) (by omega) (by omega)
      clear HE
      go_enter Try.func4, Try.ntmps4
      go_wp2_with fail
      refine HI.mono ?_
      rintro e w1 ⟨rfl, rfl⟩
      go_wp2_with fail
      refine HE1.mono ?_
      rintro e w2 ⟨⟨y, rfl, y1, y2, y3⟩, hb2⟩
      have Y3 := Lib.hid y3
      have hb3 := b1.trans (hb2.mono b1.size)
      clear y3 HE1 hb2
      by_cases hny : y < 0
      · go_wp2
        go_ret
        exact ⟨⟨-1, rfl, by omega, by omega, fun h => absurd h (by omega)⟩, hb3⟩
      · go_wp2
        go_ret
        exact ⟨⟨y, rfl, y1, y2, fun h => ⟨Z4.out (by omega), by show xn.size ≤ _; omega, Y3.out h⟩⟩, hb3⟩
set_option maxHeartbeats 2000000 in
set_option maxRecDepth 100000 in
theorem eqDd (X : Dd) (ct cp ct' cp' : Nat) (w : World) (h1 : OwnI w ct X.t) (h2 : Es w cp X.p) (h3 : OwnI w ct' X.t) (h4 : Es w cp' X.p) (hf : FitsDd X) :
    Calls Try.prog 8 #[ddR X ct cp, ddR X ct' cp'] w fun e w' => e = .returned (.bool true) ∧ Below w.heap.size w w' := by
  obtain ⟨xk, xm, xt, xn, xv, xp, xf, xu, xc⟩ := X
  obtain ⟨f1, f2, f3⟩ := hf
  simp only at h1 h2 h3 h4 f1 f2 f3
  unfold ddR ddV
  simp only
  have b1 := ((Below.refl w.heap.size w).alloc (Nat.le_refl _) (.cells #[.int .i64 xk, .int .i64 xm, .slice (some ⟨ct, 0, none⟩) xt.length xt.length, .string xn, .int .i64 xv, .slice (some ⟨cp, 0, none⟩) xp.length xp.length, .int .i64 xf, .int .i64 xu, .int .i64 xc] 30)).alloc (by simp) (.cells #[.int .i64 xk, .int .i64 xm, .slice (some ⟨ct', 0, none⟩) xt.length xt.length, .string xn, .int .i64 xv, .slice (some ⟨cp', 0, none⟩) xp.length xp.length, .int .i64 xf, .int .i64 xu, .int .i64 xc] 30)
  have HI := eqI _ _ xt _ ((h1.below b1).row xt.length) ((h3.below b1).row xt.length) (by omega)
  have HE := fun w' (hw : Below w.heap.size w w') => eqES xp cp cp' xp.length xp.length w' (h2.below hw) (h4.below hw) f3.1
  have n1 : w.heap.size < (w.alloc (.cells #[.int .i64 xk, .int .i64 xm, .slice (some ⟨ct, 0, none⟩) xt.length xt.length, .string xn, .int .i64 xv, .slice (some ⟨cp, 0, none⟩) xp.length xp.length, .int .i64 xf, .int .i64 xu, .int .i64 xc] 30)).heap.size := by simp
  clear h1 h2 h3 h4
  go_enter Try.func8, Try.ntmps8
  go_wp2_with fail
  refine HI.mono ?_
  rintro e w1 ⟨rfl, hb1⟩
  obtain ⟨hc, hf⟩ := bcell hb1
  have A3 : w1.cell? ⟨w.heap.size, 3, none⟩ = some (.string xn) := by rw [hc _ _ (by first | (simp; done) | (simp; omega))]; go_simp
  have B3 : w1.cell? ⟨w.heap.size + 1, 3, none⟩ = some (.string xn) := by rw [hc _ _ (by first | (simp; done) | (simp; omega))]; go_simp
  have A4 : w1.cell? ⟨w.heap.size, 4, none⟩ = some (.int .i64 xv) := by rw [hc _ _ (by first | (simp; done) | (simp; omega))]; go_simp
  have B4 : w1.cell? ⟨w.heap.size + 1, 4, none⟩ = some (.int .i64 xv) := by rw [hc _ _ (by first | (simp; done) | (simp; omega))]; go_simp
  have A5 : w1.cell? ⟨w.heap.size, 5, none⟩ = some (.slice (some ⟨cp, 0, none⟩) xp.length xp.length) := by rw [hc _ _ (by first | (simp; done) | (simp; omega))]; go_simp
  have B5 : w1.cell? ⟨w.heap.size + 1, 5, none⟩ = some (.slice (some ⟨cp', 0, none⟩) xp.length xp.length) := by rw [hc _ _ (by first | (simp; done) | (simp; omega))]; go_simp
  have A6 : w1.cell? ⟨w.heap.size, 6, none⟩ = some (.int .i64 xf) := by rw [hc _ _ (by first | (simp; done) | (simp; omega))]; go_simp
  have B6 : w1.cell? ⟨w.heap.size + 1, 6, none⟩ = some (.int .i64 xf) := by rw [hc _ _ (by first | (simp; done) | (simp; omega))]; go_simp
  have A7 : w1.cell? ⟨w.heap.size, 7, none⟩ = some (.int .i64 xu) := by rw [hc _ _ (by first | (simp; done) | (simp; omega))]; go_simp
  have B7 : w1.cell? ⟨w.heap.size + 1, 7, none⟩ = some (.int .i64 xu) := by rw [hc _ _ (by first | (simp; done) | (simp; omega))]; go_simp
  have A8 : w1.cell? ⟨w.heap.size, 8, none⟩ = some (.int .i64 xc) := by rw [hc _ _ (by first | (simp; done) | (simp; omega))]; go_simp
  have B8 : w1.cell? ⟨w.heap.size + 1, 8, none⟩ = some (.int .i64 xc) := by rw [hc _ _ (by first | (simp; done) | (simp; omega))]; go_simp
  have bb := b1.trans (hb1.mono b1.size)
  have sb : w.heap.size + 1 < w1.heap.size := World.block_lt_of_cell? _ _ B3
  have HE1 := HE w1 bb
  clear hc hf hb1 HE HI b1 n1
  go_wp2_with fail
  refine HE1.mono ?_
  rintro e w2 ⟨rfl, hb2⟩
  have C6 := (hb2.cell (p := ⟨w.heap.size, 6, none⟩) (by show w.heap.size < _; omega)).trans A6
  have D6 := (hb2.cell (p := ⟨w.heap.size + 1, 6, none⟩) sb).trans B6
  have C7 := (hb2.cell (p := ⟨w.heap.size, 7, none⟩) (by show w.heap.size < _; omega)).trans A7
  have D7 := (hb2.cell (p := ⟨w.heap.size + 1, 7, none⟩) sb).trans B7
  have C8 := (hb2.cell (p := ⟨w.heap.size, 8, none⟩) (by show w.heap.size < _; omega)).trans A8
  have D8 := (hb2.cell (p := ⟨w.heap.size + 1, 8, none⟩) sb).trans B8
  have b2 := bb.trans (hb2.mono bb.size)
  clear hb2 HE1 bb A3 B3 A4 B4 A5 B5 A6 B6 A7 B7 A8 B8
  go_wp2
  go_ret
  exact ⟨rfl, b2⟩
/-- The copy of a deed. -/
def CpDd (w : World) (lo hi : Nat) (v : Value) (X : Dd) : Prop := ∃ ct cp, v = ddR X ct cp ∧ lo ≤ ct ∧ lo ≤ cp ∧ OwnI w ct X.t ∧ Es w cp X.p ∧ FitsDd X
theorem CpDd.below {w w' : World} {lo hi : Nat} {v : Value} {X : Dd} (h : CpDd w lo hi v X) (hb : Below w.heap.size w w') : CpDd w' lo hi v X := by
  obtain ⟨ct, cp, e, h1, h2, h3, h4, h5⟩ := h
  exact ⟨ct, cp, e, h1, h2, h3.below hb, h4.below hb, h5⟩
theorem toCpDd (v : Value) (X : Dd) (w : World) (h : ListDd w v X) (hf : FitsDd X) :
    Calls Try.prog 6 #[v] w fun e w' => ∃ u, e = .returned u ∧ CpDd w' w.heap.size w'.heap.size u X ∧ Below w.heap.size w w' := by
  obtain ⟨vt, vp, rfl, h1, h2⟩ := h
  exact (toDd X vt vp w h1 h2 hf.1 hf.2.2.1).mono fun e w' ⟨ct, cp, he, a, b, c, d, hb⟩ => ⟨_, he, ⟨ct, cp, rfl, a, b, c, d, hf⟩, hb⟩
end Go.Proofs.Ytkaakomiimcbmaa
