/- ApprovedIn: both calls by their contracts. -/
import Derived.Test.YtcoelccmfljlhaaAp2
namespace Go.Proofs.Ytcoelccmfljlhaa
open Go.ChangeShapes Go.WideShapes Go.ChangeAt Go.RowKit Go.Deep
set_option linter.unusedSimpArgs false
set_option linter.unusedVariables false
theorem CpI.kept {w w' : World} {lo hi : Nat} {v : Value} {l : List Int} {S : Nat → Prop} (h : CpI w lo hi v l) (hk : Kept w w' S) (hs : ∀ b, lo ≤ b → b < hi → ¬ S b) : CpI w' lo hi v l :=
  ⟨h.1, hk.row h.2.1 (hs lo (Nat.le_refl _) h.2.2.1), h.2.2⟩
noncomputable def mApp (X : El) (t : List Int) : List Int × Bool := if (eOkB X && risB t 0 ((X.2.1.length : Int) - 1)) = true then (apL X.2.2 t X.2.2.length, true) else ([], false)
set_option maxHeartbeats 1000000 in
theorem sApp (X : El) (t : List Int) (w : World) (lo hi : Nat) (u : Value) (h : CpE w lo hi u X) (lo1 hi1 : Nat) (v : Value) (ht : CpI w lo1 hi1 v t) : Calls Try.prog 24 #[u, v] w (PIb (mApp X t) w) := by
  obtain ⟨ht, htl⟩ := ht.out
  obtain ⟨c, b, rfl, -, h⟩ := h
  obtain ⟨W1, hW1⟩ : ∃ W1, W1 = w.alloc (.cells #[.int .i64 X.1, .slice (some ⟨c, 0, none⟩) X.2.1.length X.2.1.length, .slice (some ⟨b, 0, none⟩) X.2.2.length X.2.2.length] 28) := ⟨_, rfl⟩
  have b1 : Below w.heap.size w W1 := by rw [hW1]; exact (Below.refl w.heap.size w).alloc (Nat.le_refl _) _
  have he : ElAt W1 w.heap.size X.1 (.slice (some ⟨c, 0, none⟩) X.2.1.length X.2.1.length) (.slice (some ⟨b, 0, none⟩) X.2.2.length X.2.2.length) := by rw [hW1]; exact el_at w _ _ _
  have HS := selok X c b hi w.heap.size _ (h.below b1) he
  have HP := fun w' (hw : Drw W1 w') => sset X.1 X.2.1.length X.2.1.length (some ⟨c, 0, none⟩) _ v t w.heap.size w' h.fits.1 (he.below hw.below) ((ht.below b1).below hw.below) htl
  have HU := Lib.hid (fun w' (hw : Drw W1 w') (hok : eOkB X = true) (hr : risB t 0 ((X.2.1.length : Int) - 1) = true) => sapp X c b hi w.heap.size t v w' ((h.below b1).below hw.below) (he.below hw.below) ((ht.below b1).below hw.below) htl)
  rw [hW1] at HS
  have HW1 := Lib.hid hW1
  have B := Lib.hid b1
  unfold PIb mApp
  obtain ⟨y, hy⟩ : ∃ y, eOkB X = y := ⟨_, rfl⟩
  obtain ⟨z, hz⟩ : ∃ z, risB t 0 ((X.2.1.length : Int) - 1) = z := ⟨_, rfl⟩
  rw [hy, hz] at HU
  rw [hy] at HS ⊢
  rw [hz] at HP ⊢
  generalize apL X.2.2 t X.2.2.length = n at HU ⊢
  clear hW1 b1 he h hy hz ht
  cases y with
  | false =>
    go_enter Try.func24, Try.ntmps24
    go_wp2_with fail
    refine HS.mono ?_
    rintro e w1 ⟨rfl, hb1⟩
    rw [← HW1.out] at hb1
    have b2 := B.out.trans (hb1.below.mono B.out.size)
    go_wp2
    go_ret2
    exact ⟨_, rfl, RdI.nil _ _ _, b2⟩
  | true =>
    cases z with
    | false =>
      go_enter Try.func24, Try.ntmps24
      go_wp2_with fail
      refine HS.mono ?_
      rintro e w1 ⟨rfl, hb1⟩
      rw [← HW1.out] at hb1
      go_wp2_with fail
      refine (HP _ hb1).mono ?_
      rintro e w2 ⟨rfl, hb2⟩
      have b2 := B.out.trans ((hb1.trans hb2).below.mono B.out.size)
      go_wp2
      go_ret2
      exact ⟨_, rfl, RdI.nil _ _ _, b2⟩
    | true =>
      go_enter Try.func24, Try.ntmps24
      go_wp2_with fail
      refine HS.mono ?_
      rintro e w1 ⟨rfl, hb1⟩
      rw [← HW1.out] at hb1
      go_wp2_with fail
      refine (HP _ hb1).mono ?_
      rintro e w2 ⟨rfl, hb2⟩
      go_wp2_with fail
      refine (HU.out _ (hb1.trans hb2) (by first | exact rfl | trivial) (by first | exact rfl | trivial)).mono ?_
      rintro e w3 ⟨⟨v, rfl, hv⟩, hb3⟩
      have bq := B.out.trans ((hb1.trans hb2).below.mono B.out.size)
      go_wp2
      go_ret2
      exact ⟨_, rfl, hv.rd.mono bq.size (Nat.le_refl _), bq.trans (hb3.mono bq.size)⟩
set_option maxHeartbeats 1000000 in
theorem iApp (X : El) (t : List Int) (w : World) (lo hi : Nat) (u : Value) (h : CpE w lo hi u X) (lo1 hi1 : Nat) (v : Value) (ht : CpI w lo1 hi1 v t) : Calls Try.prog 25 #[u, v] w (QIb (mApp X t) w) := by
  obtain ⟨ht, htl⟩ := ht.out
  obtain ⟨c, b, rfl, -, h⟩ := h
  have b1 := (Below.refl w.heap.size w).alloc (Nat.le_refl _) (.cells #[.int .i64 X.1, .slice (some ⟨c, 0, none⟩) X.2.1.length X.2.1.length, .slice (some ⟨b, 0, none⟩) X.2.2.length X.2.2.length] 28)
  have he := el_at w X.1 (.slice (some ⟨c, 0, none⟩) X.2.1.length X.2.1.length) (.slice (some ⟨b, 0, none⟩) X.2.2.length X.2.2.length)
  have HS := ihasset X c b hi v t _ (h.below b1) (ht.below b1) htl
  have HU := Lib.hid (fun w' (hw : Below w.heap.size w w') (hok : (eOkB X && risB t 0 ((X.2.1.length : Int) - 1)) = true) => iapp X c b hi t v w' (h.below hw) (ht.below hw) htl)
  have HE := Lib.hid he
  have B := Lib.hid b1
  unfold QIb mApp
  obtain ⟨y, hy⟩ : ∃ y, (eOkB X && risB t 0 ((X.2.1.length : Int) - 1)) = y := ⟨_, rfl⟩
  rw [hy] at HS HU ⊢
  generalize apL X.2.2 t X.2.2.length = n at HU ⊢
  clear b1 he h hy ht
  cases y with
  | false =>
    go_enter Try.func25, Try.ntmps25
    go_wp2_with fail
    refine HS.mono ?_
    rintro e w1 ⟨rfl, hb1⟩
    have b2 := B.out.trans (hb1.mono B.out.size)
    go_wp2
    go_ret2
    exact ⟨_, rfl, OwI.nil _ _ _, b2⟩
  | true =>
    go_enter Try.func25, Try.ntmps25
    go_wp2_with fail
    refine HS.mono ?_
    rintro e w1 ⟨rfl, hb1⟩
    have b2 := B.out.trans (hb1.mono B.out.size)
    obtain ⟨p0, p1, p2, pl⟩ := HE.out.below hb1
    go_wp2_with fail
    refine (HU.out _ b2 (by first | exact rfl | trivial)).mono ?_
    rintro e w3 ⟨⟨v, rfl, hv⟩, hb3⟩
    go_wp2
    go_ret2
    exact ⟨_, rfl, hv.mono b2.size (Nat.le_refl _), b2.trans (hb3.mono b2.size)⟩
end Go.Proofs.Ytcoelccmfljlhaa
