/- What a function requires, and what is attempted: a panic that is recovered. -/
import Derived.Test.YthffhllkfadejaaFm2
import Derived.Defers
import Derived.Recover
import Derived.WalkLawsBesides
namespace Go.Proofs.Ythffhllkfadejaa
open Go.ChangeShapes Go.WideShapes Go.ChangeAt Go.RowKit Go.Deep
set_option linter.unusedSimpArgs false
set_option linter.unusedVariables false
/-- The panic of what is required and does not hold. -/
abbrev notMet : Value := .iface 9 (.string ⟨#[97, 32, 114, 101, 113, 117, 105, 114, 101, 109, 101, 110, 116, 32, 105, 115, 32, 110, 111, 116, 32, 109, 101, 116]⟩)
def Panics (e : Ending) : Prop := ∃ u v, e = .panicked [{ v := .iface u v, recovered := false }]
theorem req_yes (w : World) : Calls Try.prog 38 #[.bool true] w fun e w' => e = .returned (.tuple #[]) ∧ w = w' := by
  go_enter Try.func38, Try.ntmps38
  go_wp2
  go_end0
  exact ⟨rfl, rfl⟩
theorem req_no (w : World) : Calls Try.prog 38 #[.bool false] w fun e w' => e = .panicked [{ v := notMet, recovered := false }] ∧ w = w' := by
  go_enter Try.func38, Try.ntmps38
  go_wp2
  exact ⟨rfl, rfl, rfl⟩
theorem catchG_panic (u : TypeId) (v : Value) (older : List PanicEntry) (w : World) :
    CallsD Try.prog 37 #[] (.panicking ({ v := .iface u v, recovered := false } :: older)) w fun e u' w' =>
      e = .returned (.tuple #[]) ∧ u' = .panicking ({ v := .iface u v, recovered := true } :: older) ∧ w' = w := by
  refine callsD_of_wpS Try.func37 rfl fun c₀ cs hu => ?_
  apply wpS_region
  simp [wpOpsS, go_sem, recoverD, hu, Try.ntmps37, bodyPostS, results, Try.results37]
theorem catchG_idle (w : World) :
    CallsD Try.prog 37 #[] .returning w fun e u' w' => e = .returned (.tuple #[]) ∧ u' = .returning ∧ w' = w := by
  refine callsD_of_wpS Try.func37 rfl fun c₀ cs hu => ?_
  apply wpS_region
  cases c₀
  simp_all [wpOpsS, go_sem, recoverD, Try.ntmps37, bodyPostS, results, Try.results37]
end Go.Proofs.Ythffhllkfadejaa
