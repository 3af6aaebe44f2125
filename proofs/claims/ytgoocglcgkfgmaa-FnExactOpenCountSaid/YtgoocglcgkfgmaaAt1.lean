/- What a function requires, and what is attempted: a panic that is recovered. -/
import Derived.Test.YtgoocglcgkfgmaaK2v
import Derived.Defers
import Derived.Recover
import Derived.WalkLawsBesides
namespace Go.Proofs.Ytgoocglcgkfgmaa
open Go.ChangeShapes Go.WideShapes Go.ChangeAt Go.RowKit Go.Deep
set_option linter.unusedSimpArgs false
set_option linter.unusedVariables false
/-- The panic of what is required and does not hold. -/
abbrev notMet : Value := .iface 9 (.string ⟨#[97, 32, 114, 101, 113, 117, 105, 114, 101, 109, 101, 110, 116, 32, 105, 115, 32, 110, 111, 116, 32, 109, 101, 116]⟩)
def Panics (e : Ending) : Prop := ∃ u v, e = .panicked [{ v := .iface u v, recovered := false }]
theorem req_yes (w : World) : Calls Try.prog 68 #[.bool true] w fun e w' => e = .returned (.tuple #[]) ∧ w = w' := by
  go_enter Try.func68, Try.ntmps68
  go_wp2
  go_end0
  exact ⟨rfl, rfl⟩
theorem req_no (w : World) : Calls Try.prog 68 #[.bool false] w fun e w' => e = .panicked [{ v := notMet, recovered := false }] ∧ w = w' := by
  go_enter Try.func68, Try.ntmps68
  go_wp2
  exact ⟨rfl, rfl, rfl⟩
end Go.Proofs.Ytgoocglcgkfgmaa
