/- ShareOf: both calls by their contracts. -/
import Derived.Test.YtcoelccmfljlhaaDoorSx1
import Derived.Test.YtcoelccmfljlhaaDoorMth
namespace Go.Proofs.YtcoelccmfljlhaaDoor
open Go.ChangeShapes Go.WideShapes Go.ChangeAt Go.RowKit Go.Deep
set_option linter.unusedSimpArgs false
set_option linter.unusedVariables false
/-- A fraction that lies at block p. -/
structure FrAt (w : World) (p : Nat) (x y : Int) : Prop where
  c0 : w.cell? ⟨p, 0, none⟩ = some (.int .i64 x)
  c1 : w.cell? ⟨p, 1, none⟩ = some (.int .i64 y)
  lt : p < w.heap.size
theorem FrAt.below {w w' : World} {p : Nat} {x y : Int} (h : FrAt w p x y) (hb : Below w.heap.size w w') : FrAt w' p x y :=
  ⟨(hb.cell (p := ⟨p, 0, none⟩) h.lt).trans h.c0, (hb.cell (p := ⟨p, 1, none⟩) h.lt).trans h.c1, Nat.lt_of_lt_of_le h.lt hb.size⟩
theorem FrAt.kept {w w' : World} {p : Nat} {x y : Int} {S : Nat → Prop} (h : FrAt w p x y) (hk : Kept w w' S) (hs : ∀ b, p ≤ b → b < p + 1 → ¬ S b) : FrAt w' p x y :=
  ⟨(hk.cell (p := ⟨p, 0, none⟩) h.lt (hs p (Nat.le_refl _) (by omega))).trans h.c0, (hk.cell (p := ⟨p, 1, none⟩) h.lt (hs p (Nat.le_refl _) (by omega))).trans h.c1, Nat.lt_of_lt_of_le h.lt hk.size⟩
theorem fr_at (w : World) (x y : Int) : FrAt (w.alloc (.cells #[.int .i64 x, .int .i64 y] 28)) w.heap.size x y := ⟨by go_simp, by go_simp, by simp⟩
/-- What a call answers: a fraction and a bool. -/
def Pfb (m : (Int × Int) × Bool) (w : World) (e : Ending) (w' : World) : Prop := e = .returned (.tuple #[.agg #[.int .i64 m.1.1, .int .i64 m.1.2], .bool m.2]) ∧ Below w.heap.size w w'
theorem Pfb.out {x y : Int} {z : Bool} {w w' : World} {e : Ending} (h : Pfb ((x, y), z) w e w') : e = .returned (.tuple #[.agg #[.int .i64 x, .int .i64 y], .bool z]) ∧ Below w.heap.size w w' := h
abbrev Qfb := Pfb
noncomputable def mShr (X : El) : (Int × Int) × Bool := if eOkB X = true then ((gN true X.1 X.2.2.length, gD true X.1 X.2.2.length), true) else ((0, 0), false)
theorem okB_small {M n : Int} (h1 : 0 ≤ M) (h2 : M ≤ 60) (h3 : 1 ≤ n) (h4 : n ≤ 6) : gB true M n = true := by
  unfold gB
  rw [okB_yes (r_ok (by omega) (by omega) (by omega) (by omega) (by omega))]; rfl
set_option maxHeartbeats 1000000 in
theorem sShr (X : El) (w : World) (lo hi : Nat) (u : Value) (h : CpE w lo hi u X) : Calls Tryd.prog 5 #[u] w (Pfb (mShr X) w) := by
  obtain ⟨c, b, rfl, -, h⟩ := h
  obtain ⟨W2, hW2⟩ : ∃ W2, W2 = (w.alloc (.cells #[.int .i64 X.1, .slice (some ⟨c, 0, none⟩) X.2.1.length X.2.1.length, .slice (some ⟨b, 0, none⟩) X.2.2.length X.2.2.length] 31)).alloc (.cells #[.int .i64 0, .int .i64 0] 28) := ⟨_, rfl⟩
  have b2 : Below w.heap.size w W2 := by rw [hW2]; exact ((Below.refl w.heap.size w).alloc (Nat.le_refl _) _).alloc (by simp) _
  have he : ElAt W2 w.heap.size X.1 (.slice (some ⟨c, 0, none⟩) X.2.1.length X.2.1.length) (.slice (some ⟨b, 0, none⟩) X.2.2.length X.2.2.length) := by rw [hW2]; exact (el_at w _ _ _).below ((Below.refl _ _).alloc (Nat.le_refl _) _)
  have R0 : W2.cell? ⟨w.heap.size + 1, 0, none⟩ = some (.int .i64 0) := by rw [hW2]; go_simp
  have R1 : W2.cell? ⟨w.heap.size + 1, 1, none⟩ = some (.int .i64 0) := by rw [hW2]; go_simp
  have Z0 : W2.frozen? ⟨w.heap.size + 1, 0, none⟩ = false := by rw [hW2]; go_simp
  have Z1 : W2.frozen? ⟨w.heap.size + 1, 1, none⟩ = false := by rw [hW2]; go_simp
  have q2 : w.heap.size + 1 < W2.heap.size := by rw [hW2]; simp
  have hfa := h.fits.2.1.1
  have HS := selok X c b hi w.heap.size _ (h.below b2) he
  have HU := Lib.hid (fun w' (hw : Below W2.heap.size W2 w') (hok : eOkB X = true) => sshare X.1 (gN true X.1 X.2.2.length) (gD true X.1 X.2.2.length) X.2.2.length X.2.2.length w.heap.size (some ⟨b, 0, none⟩) _ (gB true X.1 X.2.2.length) w' (he.below hw) hfa (fun w => mk_any X.1 X.2.2.length w (by have := (eOkB_iff.1 hok).2.2.2.2.1; omega) (by have := (eOkB_iff.1 hok).1; omega) (by have := (eOkB_iff.1 hok).2.1; omega) (by have := (eOkB_iff.1 hok).2.2.2.2.1; omega) (by have := (eOkB_iff.1 hok).2.2.2.2.2.1; omega)))
  unfold Pfb mShr
  obtain ⟨y, hy⟩ : ∃ y, eOkB X = y := ⟨_, rfl⟩
  rw [hy] at HS HU ⊢
  generalize gN true X.1 X.2.2.length = x0 at HU ⊢
  generalize gD true X.1 X.2.2.length = y0 at HU ⊢
  rw [hW2] at HS
  have HW := Lib.hid hW2
  clear h he hy hW2
  cases y with
  | false =>
    go_enter Tryd.func5, Tryd.ntmps5
    go_wp2_with fail
    refine HS.mono ?_
    rintro e w1 ⟨rfl, hd1⟩
    rw [← HW.out] at hd1
    have hb1 := hd1.below
    have s1 := hb1.size
    have R01 := (hb1.cell (p := ⟨w.heap.size + 1, 0, none⟩) q2).trans R0
    have R11 := (hb1.cell (p := ⟨w.heap.size + 1, 1, none⟩) q2).trans R1
    have Z01 := (hb1.frozen (p := ⟨w.heap.size + 1, 0, none⟩) q2).trans Z0
    have Z11 := (hb1.frozen (p := ⟨w.heap.size + 1, 1, none⟩) q2).trans Z1
    have b3 := b2.trans (hb1.mono b2.size)
    clear hd1 hb1 R0 R1 Z0 Z1
    go_wp2
    refine bodyPost_ret (v := .tuple #[.agg #[.int .i64 0, .int .i64 0], .bool false]) (by simp [results, Tryd.results5, go_sem, R01, R11]) rfl ⟨rfl, ?_⟩
    exact (b3.setCell (by show _ ≤ _ + _; omega) _).setCell (by show _ ≤ _ + _; omega) _
  | true =>
    go_enter Tryd.func5, Tryd.ntmps5
    go_wp2_with fail
    refine HS.mono ?_
    rintro e w1 ⟨rfl, hd1⟩
    rw [← HW.out] at hd1
    have HUU := HU.out _ hd1.below (by first | exact rfl | trivial)
    go_wp2_with fail
    refine HUU.mono ?_
    rintro e w2 ⟨rfl, hb2⟩
    have hb1 := hd1.below.trans (hb2.mono hd1.below.size)
    have s1 := hb1.size
    have R01 := (hb1.cell (p := ⟨w.heap.size + 1, 0, none⟩) q2).trans R0
    have R11 := (hb1.cell (p := ⟨w.heap.size + 1, 1, none⟩) q2).trans R1
    have Z01 := (hb1.frozen (p := ⟨w.heap.size + 1, 0, none⟩) q2).trans Z0
    have Z11 := (hb1.frozen (p := ⟨w.heap.size + 1, 1, none⟩) q2).trans Z1
    have b3 := b2.trans (hb1.mono b2.size)
    clear hd1 hb1 hb2 R0 R1 Z0 Z1
    go_wp2
    refine bodyPost_ret (v := .tuple #[.agg #[.int .i64 x0, .int .i64 y0], .bool true]) (by simp [results, Tryd.results5, go_sem, R01, R11]) rfl ⟨rfl, ?_⟩
    exact (b3.setCell (by show _ ≤ _ + _; omega) _).setCell (by show _ ≤ _ + _; omega) _
set_option maxHeartbeats 1000000 in
theorem iShr (X : El) (w : World) (lo hi : Nat) (u : Value) (h : CpE w lo hi u X) (hg : ErrT w) : Calls Tryd.prog 7 #[u] w (Qfb (mShr X) w) := by
  obtain ⟨c, b, rfl, -, h⟩ := h
  obtain ⟨W2, hW2⟩ : ∃ W2, W2 = (w.alloc (.cells #[.int .i64 X.1, .slice (some ⟨c, 0, none⟩) X.2.1.length X.2.1.length, .slice (some ⟨b, 0, none⟩) X.2.2.length X.2.2.length] 31)).alloc (.cells #[.int .i64 0, .int .i64 0] 28) := ⟨_, rfl⟩
  have b2 : Below w.heap.size w W2 := by rw [hW2]; exact ((Below.refl w.heap.size w).alloc (Nat.le_refl _) _).alloc (by simp) _
  have he : ElAt W2 w.heap.size X.1 (.slice (some ⟨c, 0, none⟩) X.2.1.length X.2.1.length) (.slice (some ⟨b, 0, none⟩) X.2.2.length X.2.2.length) := by rw [hW2]; exact (el_at w _ _ _).below ((Below.refl _ _).alloc (Nat.le_refl _) _)
  have R0 : W2.cell? ⟨w.heap.size + 1, 0, none⟩ = some (.int .i64 0) := by rw [hW2]; go_simp
  have R1 : W2.cell? ⟨w.heap.size + 1, 1, none⟩ = some (.int .i64 0) := by rw [hW2]; go_simp
  have Z0 : W2.frozen? ⟨w.heap.size + 1, 0, none⟩ = false := by rw [hW2]; go_simp
  have Z1 : W2.frozen? ⟨w.heap.size + 1, 1, none⟩ = false := by rw [hW2]; go_simp
  have q2 : w.heap.size + 1 < W2.heap.size := by rw [hW2]; simp
  have hfa := h.fits.2.1.1
  have HS := ielok X c b hi W2 (h.below b2)
  have HE := Lib.hid he
  have HU := Lib.hid (fun w' (hw : Below W2.heap.size W2 w') => ifo_any X.1 X.2.2.length w' ((hg.below b2).below hw))
  have HK := Lib.hid (fun (hok : eOkB X = true) => show frOk X.1 X.2.2.length = true ∧ gB true X.1 X.2.2.length = true from by
    obtain ⟨k1, k2, _, _, k3, k4, _⟩ := eOkB_iff.1 hok
    refine ⟨?_, okB_small k1 k2 (by omega) (by omega)⟩
    unfold frOk
    rw [inB_yes (by omega) (by omega), inB_yes (by omega) (by omega)]
    simp; intro q; rw [q] at k3; simp at k3)
  unfold Qfb Pfb mShr
  obtain ⟨y, hy⟩ : ∃ y, eOkB X = y := ⟨_, rfl⟩
  rw [hy] at HS HK ⊢
  rw [hW2] at HS
  have HW := Lib.hid hW2
  clear h he hy hW2 hg
  cases y with
  | false =>
    clear HU HK
    go_enter Tryd.func7, Tryd.ntmps7
    go_wp2_with fail
    refine HS.mono ?_
    rintro e w1 ⟨rfl, hb1⟩
    rw [← HW.out] at hb1
    have s1 := hb1.size
    have R01 := (hb1.cell (p := ⟨w.heap.size + 1, 0, none⟩) q2).trans R0
    have R11 := (hb1.cell (p := ⟨w.heap.size + 1, 1, none⟩) q2).trans R1
    have Z01 := (hb1.frozen (p := ⟨w.heap.size + 1, 0, none⟩) q2).trans Z0
    have Z11 := (hb1.frozen (p := ⟨w.heap.size + 1, 1, none⟩) q2).trans Z1
    have b3 := b2.trans (hb1.mono b2.size)
    clear hb1 R0 R1 Z0 Z1
    go_wp2
    refine bodyPost_ret (v := .tuple #[.agg #[.int .i64 0, .int .i64 0], .bool false]) (by simp [results, Tryd.results7, go_sem, R01, R11]) rfl ⟨rfl, ?_⟩
    exact (b3.setCell (by show _ ≤ _ + _; omega) _).setCell (by show _ ≤ _ + _; omega) _
  | true =>
    obtain ⟨k1, k2⟩ := HK.out rfl
    have HUU := HU
    rw [k1, k2] at HUU
    clear HU HK k1 k2
    generalize gN true X.1 X.2.2.length = x0 at HUU ⊢
    generalize gD true X.1 X.2.2.length = y0 at HUU ⊢
    go_enter Tryd.func7, Tryd.ntmps7
    go_wp2_with fail
    refine HS.mono ?_
    rintro e w1 ⟨rfl, hb1'⟩
    rw [← HW.out] at hb1'
    obtain ⟨p0, p1, p2, pl⟩ := HE.out.below hb1'
    have HU2 := HUU.out _ hb1'
    go_wp2_with fail
    refine HU2.mono ?_
    rintro e w2 ⟨rfl, hb2⟩
    have hb1 := hb1'.trans (hb2.mono hb1'.size)
    have s1 := hb1.size
    have R01 := (hb1.cell (p := ⟨w.heap.size + 1, 0, none⟩) q2).trans R0
    have R11 := (hb1.cell (p := ⟨w.heap.size + 1, 1, none⟩) q2).trans R1
    have Z01 := (hb1.frozen (p := ⟨w.heap.size + 1, 0, none⟩) q2).trans Z0
    have Z11 := (hb1.frozen (p := ⟨w.heap.size + 1, 1, none⟩) q2).trans Z1
    have b3 := b2.trans (hb1.mono b2.size)
    clear hb1 hb2 hb1' R0 R1 Z0 Z1 p0 p1 p2
    go_wp2
    refine bodyPost_ret (v := .tuple #[.agg #[.int .i64 x0, .int .i64 y0], .bool true]) (by simp [results, Tryd.results7, go_sem, R01, R11]) rfl ⟨rfl, ?_⟩
    exact (b3.setCell (by show _ ≤ _ + _; omega) _).setCell (by show _ ≤ _ + _; omega) _
end Go.Proofs.YtcoelccmfljlhaaDoor
