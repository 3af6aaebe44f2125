/- CountPairs: the two sides' answers. -/
import Derived.Test.YtnpolmanebmmcaaCn2
import Derived.Test.YtnpolmanebmmcaaRp5
namespace Go.Proofs.Ytnpolmanebmmcaa
open Go.ChangeShapes Go.WideShapes Go.ChangeAt Go.RowKit Go.Deep
set_option linter.unusedSimpArgs false
set_option linter.unusedVariables false
noncomputable def mCP (X : Pr) : List (List Int) × Bool := if pOkB X then (cmat X, true) else ([], false)
theorem mCP_yes {X : Pr} (h : pOkB X = true) : mCP X = (cmat X, true) := by simp [mCP, h]
theorem mCP_no {X : Pr} (h : pOkB X = false) : mCP X = ([], false) := by simp [mCP, h]
set_option maxHeartbeats 1000000 in
theorem sCP (X : Pr) (w : World) (lo hi : Nat) (u : Value) (h : CpR w lo hi u X) : Calls Try.prog 15 #[u] w (PJb (mCP X) w) := by
  obtain ⟨b, c, rfl, -, h⟩ := h
  have b1 := (Below.refl w.heap.size w).alloc (Nat.le_refl _) (.cells #[.slice (some ⟨b, 0, none⟩) X.1.length X.1.length, .slice (some ⟨c, 0, none⟩) X.2.length X.2.length] 28)
  have hX : ∀ w', Below w.heap.size w w' → PrAt w' w.heap.size (.slice (some ⟨b, 0, none⟩) X.1.length X.1.length) (.slice (some ⟨c, 0, none⟩) X.2.length X.2.length) → PrX w' w.heap.size b c X := fun w' hb hp => (h.below hb).prx hp
  have HI := sIs X w.heap.size b c _ (hX _ b1 (pr_at w _ _)) h.fits
  have HP := fun w' hb hp hok => spairs X w.heap.size b c w' (hX w' hb hp) hok
  have hpa := pr_at w (.slice (some ⟨b, 0, none⟩) X.1.length X.1.length) (.slice (some ⟨c, 0, none⟩) X.2.length X.2.length)
  obtain ⟨z, hz⟩ : ∃ z, pOkB X = z := ⟨_, rfl⟩
  rw [hz] at HI
  clear h hX
  cases z with
  | false =>
    rw [mCP_no hz]
    clear hz HP
    go_enter Try.func15, Try.ntmps15
    go_wp2_with fail
    refine HI.mono ?_
    rintro e w1 ⟨rfl, hb⟩
    go_wp2
    go_ret2
    exact ⟨_, rfl, RdJ.nil _ _ _, b1.trans (hb.mono b1.size)⟩
  | true =>
    rw [mCP_yes hz]
    have hok := pOkB_iff.1 hz
    have HPP := fun w' hb hp => HP w' hb hp hok
    clear hz HP hok
    go_enter Try.func15, Try.ntmps15
    go_wp2_with fail
    refine HI.mono ?_
    rintro e w1 ⟨rfl, hb⟩
    have b2 := b1.trans (hb.mono b1.size)
    have HQ := HPP w1 b2 (hpa.below hb)
    have s2 := b2.size
    clear HPP hb HI
    go_wp2_with fail
    refine HQ.mono ?_
    rintro e w2 ⟨⟨b', cap, rfl, hO⟩, hb2⟩
    have HO := Lib.hid hO
    clear hO HQ
    go_wp2
    go_ret2
    exact ⟨_, rfl, (HO.out.mono s2 (Nat.le_refl _)).rd, b2.trans (hb2.mono s2)⟩
set_option maxHeartbeats 1000000 in
theorem iCP (X : Pr) (w : World) (lo hi : Nat) (u : Value) (h : CpR w lo hi u X) : Calls Try.prog 16 #[u] w (QJb (mCP X) w) := by
  obtain ⟨b, c, rfl, -, h⟩ := h
  have b1 := (Below.refl w.heap.size w).alloc (Nat.le_refl _) (.cells #[.slice (some ⟨b, 0, none⟩) X.1.length X.1.length, .slice (some ⟨c, 0, none⟩) X.2.length X.2.length] 28)
  have HI := ival X b c hi _ (h.below b1)
  have HP := fun w' hb hok => icounts X b c hi w' (h.below hb) hok
  have hpa := pr_at w (.slice (some ⟨b, 0, none⟩) X.1.length X.1.length) (.slice (some ⟨c, 0, none⟩) X.2.length X.2.length)
  obtain ⟨z, hz⟩ : ∃ z, pOkB X = z := ⟨_, rfl⟩
  rw [hz] at HI
  clear h
  cases z with
  | false =>
    rw [mCP_no hz]
    clear hz HP
    go_enter Try.func16, Try.ntmps16
    go_wp2_with fail
    refine HI.mono ?_
    rintro e w1 ⟨rfl, hb⟩
    go_wp2
    go_ret2
    exact ⟨_, rfl, OwJ.nil _ _ _, b1.trans (hb.mono b1.size)⟩
  | true =>
    rw [mCP_yes hz]
    have hok := pOkB_iff.1 hz
    have HPP := fun w' hb => HP w' hb hok
    clear hz HP hok
    go_enter Try.func16, Try.ntmps16
    go_wp2_with fail
    refine HI.mono ?_
    rintro e w1 ⟨rfl, hb⟩
    have b2 := b1.trans (hb.mono b1.size)
    have HQ := HPP w1 b2
    obtain ⟨k0, k1, kl⟩ := hpa.below hb
    have s2 := b2.size
    clear HPP hb HI
    go_wp2_with fail
    refine HQ.mono ?_
    rintro e w2 ⟨⟨b', rfl, hO⟩, hb2⟩
    have HO := Lib.hid hO
    clear hO HQ
    go_wp2
    go_ret2
    exact ⟨_, rfl, HO.out.mono s2 (Nat.le_refl _), b2.trans (hb2.mono s2)⟩
end Go.Proofs.Ytnpolmanebmmcaa
