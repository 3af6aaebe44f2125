/- SupportersOf: both calls by their contracts. -/
import Derived.Test.YtcoelccmfljlhaaEv5
namespace Go.Proofs.Ytcoelccmfljlhaa
open Go.ChangeShapes Go.WideShapes Go.ChangeAt Go.RowKit Go.Deep
set_option linter.unusedSimpArgs false
set_option linter.unusedVariables false
theorem allDiff_one (n : Nat) (q : Int) : allDiffB n [q] = inB q 0 ((n : Int) - 1) := by
  by_cases h : 0 ≤ q ∧ q ≤ (n : Int) - 1
  · rw [inB_yes h.1 h.2]
    refine allDiffB_yes fun m hm => ?_
    obtain rfl : m = 0 := by simpa using hm
    simp
    omega
  · rw [inB_no h]
    refine allDiffB_no fun ho => h ?_
    have := ho 0 (by simp)
    simp at this
    omega
noncomputable def mSup (X : El) (q : Int) : List Int × Bool := if (eOkB X && inB q 0 ((X.2.1.length : Int) - 1)) = true then (supL X.2.2 q, true) else ([], false)
set_option maxHeartbeats 1000000 in
theorem sSup (X : El) (q : Int) (w : World) (lo hi : Nat) (u : Value) (h : CpE w lo hi u X) (wf : (Lit.int .i64 q).wf = true) : Calls Try.prog 15 #[u, .int .i64 q] w (PIb (mSup X q) w) := by
  obtain ⟨c, b, rfl, -, h⟩ := h
  obtain ⟨W1, hW1⟩ : ∃ W1, W1 = w.alloc (.cells #[.int .i64 X.1, .slice (some ⟨c, 0, none⟩) X.2.1.length X.2.1.length, .slice (some ⟨b, 0, none⟩) X.2.2.length X.2.2.length] 28) := ⟨_, rfl⟩
  have b1 : Below w.heap.size w W1 := by rw [hW1]; exact (Below.refl w.heap.size w).alloc (Nat.le_refl _) _
  have he : ElAt W1 w.heap.size X.1 (.slice (some ⟨c, 0, none⟩) X.2.1.length X.2.1.length) (.slice (some ⟨b, 0, none⟩) X.2.2.length X.2.2.length) := by rw [hW1]; exact el_at w _ _ _
  have HS := selok X c b hi w.heap.size _ (h.below b1) he
  have HP := fun w' (hw : Drw W1 w') => sproj X.1 X.2.1.length X.2.1.length (some ⟨c, 0, none⟩) _ q w.heap.size w' h.fits.1 (he.below hw.below)
  have HU := fun w' (hw : Drw W1 w') => ssup X c b hi w.heap.size q w' ((h.below b1).below hw.below) (he.below hw.below)
  rw [hW1] at HS
  have HW1 := Lib.hid hW1
  have B := Lib.hid b1
  unfold PIb mSup
  obtain ⟨y, hy⟩ : ∃ y, eOkB X = y := ⟨_, rfl⟩
  obtain ⟨z, hz⟩ : ∃ z, inB q 0 ((X.2.1.length : Int) - 1) = z := ⟨_, rfl⟩
  rw [hy] at HS ⊢
  rw [hz] at HP ⊢
  generalize supL X.2.2 q = L at HU ⊢
  clear hW1 b1 he h hy hz
  cases y with
  | false =>
    go_enter Try.func15, Try.ntmps15
    go_wp2_with fail
    refine HS.mono ?_
    rintro e w1 ⟨rfl, hb1⟩
    rw [← HW1.out] at hb1
    have b2 := B.out.trans (hb1.below.mono B.out.size)
    go_wp2
    go_ret2
    exact ⟨_, rfl, RdI.nil _ _ _, b2⟩
  | true =>
    cases z with
    | false =>
      go_enter Try.func15, Try.ntmps15
      go_wp2_with fail
      refine HS.mono ?_
      rintro e w1 ⟨rfl, hb1⟩
      rw [← HW1.out] at hb1
      have b2 := B.out.trans (hb1.below.mono B.out.size)
      go_wp2_with fail
      refine (HP _ hb1).mono ?_
      rintro e w2 ⟨rfl, rfl⟩
      go_wp2
      go_ret2
      exact ⟨_, rfl, RdI.nil _ _ _, b2⟩
    | true =>
      go_enter Try.func15, Try.ntmps15
      go_wp2_with fail
      refine HS.mono ?_
      rintro e w1 ⟨rfl, hb1⟩
      rw [← HW1.out] at hb1
      have b2 := B.out.trans (hb1.below.mono B.out.size)
      go_wp2_with fail
      refine (HP _ hb1).mono ?_
      rintro e w2 ⟨rfl, rfl⟩
      go_wp2_with fail
      refine (HU _ hb1).mono ?_
      rintro e w3 ⟨⟨v, rfl, hv⟩, hb3⟩
      go_wp2
      go_ret2
      exact ⟨_, rfl, hv.rd.mono b2.size (Nat.le_refl _), b2.trans (hb3.mono b2.size)⟩
set_option maxHeartbeats 1000000 in
theorem iSup (X : El) (q : Int) (w : World) (lo hi : Nat) (u : Value) (h : CpE w lo hi u X) (wf : (Lit.int .i64 q).wf = true) : Calls Try.prog 16 #[u, .int .i64 q] w (QIb (mSup X q) w) := by
  obtain ⟨c, b, rfl, -, h⟩ := h
  obtain ⟨W1, hW1⟩ : ∃ W1, W1 = w.alloc (.cells #[.int .i64 X.1, .slice (some ⟨c, 0, none⟩) X.2.1.length X.2.1.length, .slice (some ⟨b, 0, none⟩) X.2.2.length X.2.2.length] 28) := ⟨_, rfl⟩
  have b1 : Below w.heap.size w W1 := by rw [hW1]; exact (Below.refl w.heap.size w).alloc (Nat.le_refl _) _
  have he : ElAt W1 w.heap.size X.1 (.slice (some ⟨c, 0, none⟩) X.2.1.length X.2.1.length) (.slice (some ⟨b, 0, none⟩) X.2.2.length X.2.2.length) := by rw [hW1]; exact el_at w _ _ _
  have s1 : W1.heap.size = w.heap.size + 1 := by rw [hW1]; simp
  have b2 := (Below.refl W1.heap.size W1).alloc (Nat.le_refl _) (.cells #[.int .i64 q] 2)
  have hrow : RowV (W1.alloc (.cells #[.int .i64 q] 2)) (.slice (some ⟨W1.heap.size, 0, none⟩) 1 1) [q] := .inr ⟨⟨W1.heap.size, 0, none⟩, 1, rfl, fun _ => by simp, fun i hi => by
    obtain rfl : i = 0 := by simpa using hi
    rw [Addr.add_lit]
    go_simp⟩
  have HO := ihasorder X c b hi _ [q] _ ((h.below b1).below b2) hrow (by simp)
  rw [allDiff_one] at HO
  have HU := fun w' (hw : Below w.heap.size w w') => isup X c b hi q w' (h.below hw)
  have he2 := he.below b2
  have hbb := b1.trans (b2.mono b1.size)
  unfold QIb mSup
  obtain ⟨y, hy⟩ : ∃ y, (eOkB X && inB q 0 ((X.2.1.length : Int) - 1)) = y := ⟨_, rfl⟩
  rw [hy] at HO ⊢
  rw [s1] at HO
  rw [hW1] at HO he2 hbb
  have HE := Lib.hid he2
  have B := Lib.hid hbb
  clear hW1 b1 b2 he he2 h hrow hy hbb s1
  cases y with
  | false =>
    go_enter Try.func16, Try.ntmps16
    go_wp2_with fail
    refine HO.mono ?_
    rintro e w1 ⟨rfl, hb1⟩
    have b2 := B.out.trans (hb1.mono B.out.size)
    go_wp2
    go_ret2
    exact ⟨_, rfl, OwI.nil _ _ _, b2⟩
  | true =>
    go_enter Try.func16, Try.ntmps16
    go_wp2_with fail
    refine HO.mono ?_
    rintro e w1 ⟨rfl, hb1⟩
    have b2 := B.out.trans (hb1.mono B.out.size)
    obtain ⟨p0, p1, p2, pl⟩ := HE.out.below hb1
    go_wp2_with fail
    refine (HU _ b2).mono ?_
    rintro e w3 ⟨⟨v, rfl, hv⟩, hb3⟩
    go_wp2
    go_ret2
    exact ⟨_, rfl, hv.mono b2.size (Nat.le_refl _), b2.trans (hb3.mono b2.size)⟩
end Go.Proofs.Ytcoelccmfljlhaa
