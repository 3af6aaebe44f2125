/- Frames: copied, their size. -/
import Derived.Test.YtllfopbpchjhpaaDoorEl2
namespace Go.Proofs.YtllfopbpchjhpaaDoor
open Go.ChangeShapes Go.WideShapes Go.ChangeAt Go.RowKit Go.Deep
set_option linter.unusedSimpArgs false
set_option linter.unusedVariables false
abbrev Fm := Int × List (List Int)
/-- The value v is the frame X. -/
def ListG (w : World) (v : Value) (X : Fm) : Prop := ∃ a, v = .agg #[.int .i64 X.1, a] ∧ ListJ w a X.2
theorem ListG.below {w w' : World} {v : Value} {X : Fm} (h : ListG w v X) (hb : Below w.heap.size w w') : ListG w' v X := by
  obtain ⟨a, e, h2⟩ := h
  exact ⟨a, e, h2.below hb⟩
def RoomG (X : Fm) : Prop := RoomJ X.2 ∧ (Lit.int .i64 X.1).wf = true
def FitsG (X : Fm) : Prop := FitsJ X.2 ∧ (Lit.int .i64 X.1).wf = true
end Go.Proofs.YtllfopbpchjhpaaDoor
