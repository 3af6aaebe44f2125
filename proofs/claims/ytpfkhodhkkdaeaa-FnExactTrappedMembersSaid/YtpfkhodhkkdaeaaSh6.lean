/- ValidShares on both sides. -/
import Derived.Test.YtpfkhodhkkdaeaaSh5
import Derived.Test.YtpfkhodhkkdaeaaK2
namespace Go.Proofs.Ytpfkhodhkkdaeaa
open Go.ChangeShapes Go.WideShapes Go.ChangeAt Go.RowKit Go.Deep
set_option linter.unusedSimpArgs false
set_option linter.unusedVariables false
theorem sValidShares (L : List (List Sq)) (w : World) (lo hi : Nat) (u : Value) (h : CpS w lo hi u L) : Calls Try.prog 31 #[u] w (Pb (okSB L) w) := by
  obtain ⟨rfl, h1, -, hf⟩ := h
  have HS := sis_any L lo lo L.length w h1 hf
  go_enter Try.func31, Try.ntmps31
  go_wp2_with fail
  refine HS.mono ?_
  rintro e w1 ⟨rfl, hb⟩
  go_wp2
  go_ret
  exact ⟨rfl, hb⟩
theorem iValidShares (L : List (List Sq)) (w : World) (lo hi : Nat) (u : Value) (h : CpS w lo hi u L) : Calls Try.prog 33 #[u] w (Pb (okSB L) w) := by
  obtain ⟨rfl, h1, -, hf⟩ := h
  exact iis_any L lo lo L.length w h1 hf
end Go.Proofs.Ytpfkhodhkkdaeaa
