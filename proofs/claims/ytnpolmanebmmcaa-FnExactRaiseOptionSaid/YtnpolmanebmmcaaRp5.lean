/- ValidProfile: the two sides' answers. -/
import Derived.Test.YtnpolmanebmmcaaRp4
import Derived.Test.YtnpolmanebmmcaaK2v
namespace Go.Proofs.Ytnpolmanebmmcaa
open Go.ChangeShapes Go.WideShapes Go.ChangeAt Go.RowKit Go.Deep
set_option linter.unusedSimpArgs false
set_option linter.unusedVariables false
set_option maxHeartbeats 1000000 in
theorem sVR (X : Pr) (w : World) (lo hi : Nat) (u : Value) (h : CpR w lo hi u X) : Calls Try.prog 11 #[u] w (Pb (pOkB X) w) := by
  obtain ⟨b, c, rfl, -, h⟩ := h
  have b1 := (Below.refl w.heap.size w).alloc (Nat.le_refl _) (.cells #[.slice (some ⟨b, 0, none⟩) X.1.length X.1.length, .slice (some ⟨c, 0, none⟩) X.2.length X.2.length] 28)
  have HI := sIs X w.heap.size b c _ ((h.below b1).prx (pr_at w _ _)) h.fits
  obtain ⟨z, hz⟩ : ∃ z, pOkB X = z := ⟨_, rfl⟩
  unfold Pb
  rw [hz] at HI ⊢
  clear h hz
  go_enter Try.func11, Try.ntmps11
  go_wp2_with fail
  refine HI.mono ?_
  rintro e w1 ⟨rfl, hb⟩
  go_wp2
  go_ret
  exact ⟨rfl, b1.trans (hb.mono b1.size)⟩
theorem iVR (X : Pr) (w : World) (lo hi : Nat) (u : Value) (h : CpR w lo hi u X) : Calls Try.prog 13 #[u] w (Pb (pOkB X) w) := by
  obtain ⟨b, c, rfl, -, h⟩ := h
  exact ival X b c hi w h
end Go.Proofs.Ytnpolmanebmmcaa
