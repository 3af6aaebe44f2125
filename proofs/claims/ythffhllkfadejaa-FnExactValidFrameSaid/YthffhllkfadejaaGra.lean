/- ValidFrame: both calls by their contracts. -/
import Derived.Test.YthffhllkfadejaaGr8
import Derived.Test.YthffhllkfadejaaGr9
namespace Go.Proofs.Ythffhllkfadejaa
open Go.ChangeShapes Go.WideShapes Go.ChangeAt Go.RowKit Go.Deep
set_option linter.unusedSimpArgs false
set_option linter.unusedVariables false
theorem sVF (X : Fm) (w : World) (lo hi : Nat) (u : Value) (h : CpG w lo hi u X) : Calls Try.prog 7 #[u] w (Pb (fOkB X) w) := by
  obtain ⟨b, rfl, -, h⟩ := h
  have b1 := (Below.refl w.heap.size w).alloc (Nat.le_refl _) (.cells #[.int .i64 X.1, .slice (some ⟨b, 0, none⟩) X.2.length X.2.length] 27)
  have HS := sfok X b hi w.heap.size _ (h.below b1) (fm_at w _ _)
  unfold Pb
  generalize fOkB X = z at HS ⊢
  clear h
  go_enter Try.func7, Try.ntmps7
  go_wp2_with fail
  refine HS.mono ?_
  rintro e w1 ⟨rfl, hb1⟩
  go_wp2
  go_ret
  exact ⟨rfl, b1.trans (hb1.below.mono b1.size)⟩
end Go.Proofs.Ythffhllkfadejaa
