/- ValidElection: both calls by their contracts. -/
import Derived.Test.YtcoelccmfljlhaaEv2
namespace Go.Proofs.Ytcoelccmfljlhaa
open Go.ChangeShapes Go.WideShapes Go.ChangeAt Go.RowKit Go.Deep
set_option linter.unusedSimpArgs false
set_option linter.unusedVariables false
theorem sVE (X : El) (w : World) (lo hi : Nat) (u : Value) (h : CpE w lo hi u X) : Calls Try.prog 11 #[u] w (Pb (eOkB X) w) := by
  obtain ⟨c, b, rfl, -, h⟩ := h
  have b1 := (Below.refl w.heap.size w).alloc (Nat.le_refl _) (.cells #[.int .i64 X.1, .slice (some ⟨c, 0, none⟩) X.2.1.length X.2.1.length, .slice (some ⟨b, 0, none⟩) X.2.2.length X.2.2.length] 28)
  have HS := selok X c b hi w.heap.size _ (h.below b1) (el_at w _ _ _)
  unfold Pb
  generalize eOkB X = z at HS ⊢
  clear h
  go_enter Try.func11, Try.ntmps11
  go_wp2_with fail
  refine HS.mono ?_
  rintro e w1 ⟨rfl, hb1⟩
  go_wp2
  go_ret
  exact ⟨rfl, b1.trans (hb1.below.mono b1.size)⟩
theorem iVE (X : El) (w : World) (lo hi : Nat) (u : Value) (h : CpE w lo hi u X) : Calls Try.prog 13 #[u] w (Pb (eOkB X) w) := by
  obtain ⟨c, b, rfl, -, h⟩ := h
  exact ielok X c b hi w h
end Go.Proofs.Ytcoelccmfljlhaa
