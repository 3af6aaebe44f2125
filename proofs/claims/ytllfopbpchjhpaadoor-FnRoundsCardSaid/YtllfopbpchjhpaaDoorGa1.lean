/- The specification's AttackersOf and DefendedBy. -/
import Derived.Test.YtllfopbpchjhpaaDoorGsa
import Derived.Test.YtllfopbpchjhpaaDoorGzc
namespace Go.Proofs.YtllfopbpchjhpaaDoor
open Go.ChangeShapes Go.WideShapes Go.ChangeAt Go.RowKit Go.Deep Go.Maps
set_option linter.unusedSimpArgs false
set_option linter.unusedVariables false
noncomputable def mHasA (X : Fm) (a : Int) : Bool := fOkB X && inB a 0 (X.1 - 1)
noncomputable def mAtk (X : Fm) (a : Int) : List Int × Bool := if mHasA X a = true then (listB (byF X.2 a), true) else ([], false)
noncomputable def mDef (X : Fm) (l : List Int) : List Int × Bool := if mFits X l = true then (listB (defB X.1.toNat X.2 (setL l)), true) else ([], false)
theorem mHasA_iff {X : Fm} {a : Int} : mHasA X a = true ↔ fOk X ∧ 0 ≤ a ∧ a < X.1 := by
  unfold mHasA inB
  rw [Bool.and_eq_true, fOkB_iff]
  simp
  intro _ _
  omega
theorem OwI.rdI {w : World} {lo hi : Nat} {v : Value} {l : List Int} (h : OwI w lo hi v l) : RdI w lo hi v l := h.rd
end Go.Proofs.YtllfopbpchjhpaaDoor
