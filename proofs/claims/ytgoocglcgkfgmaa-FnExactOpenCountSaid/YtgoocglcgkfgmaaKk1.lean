/- A copied list is kept. -/
import Derived.Test.YtgoocglcgkfgmaaK2v
namespace Go.Proofs.Ytgoocglcgkfgmaa
open Go.ChangeShapes Go.WideShapes Go.ChangeAt Go.RowKit Go.Deep
theorem CpI.kept {w w' : World} {lo hi : Nat} {v : Value} {l : List Int} {S : Nat → Prop} (h : CpI w lo hi v l) (hk : Kept w w' S) (hs : ∀ b, lo ≤ b → b < hi → ¬ S b) : CpI w' lo hi v l := ⟨h.1, hk.row h.2.1 (hs lo (Nat.le_refl _) h.2.2.1), h.2.2⟩
end Go.Proofs.Ytgoocglcgkfgmaa
