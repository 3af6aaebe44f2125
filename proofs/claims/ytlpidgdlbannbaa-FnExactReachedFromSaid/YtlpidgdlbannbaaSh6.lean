/- ValidShares on both sides. -/
import Derived.Test.YtlpidgdlbannbaaSh5
import Derived.Test.YtlpidgdlbannbaaK2
namespace Go.Proofs.Ytlpidgdlbannbaa
open Go.ChangeShapes Go.WideShapes Go.ChangeAt Go.RowKit Go.Deep
set_option linter.unusedSimpArgs false
set_option linter.unusedVariables false
theorem iValidShares (L : List (List Sq)) (w : World) (lo hi : Nat) (u : Value) (h : CpS w lo hi u L) : Calls Try.prog 109 #[u] w (Pb (okSB L) w) := by
  obtain ⟨rfl, h1, -, hf⟩ := h
  exact iis_any L lo lo L.length w h1 hf
end Go.Proofs.Ytlpidgdlbannbaa
