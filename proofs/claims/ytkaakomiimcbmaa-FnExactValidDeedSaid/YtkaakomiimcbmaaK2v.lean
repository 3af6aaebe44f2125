/- The kinds of values that a law copies, compares, marks: lists of voices; what calls answer. -/
import Derived.Test.YtkaakomiimcbmaaK1
namespace Go.Proofs.Ytkaakomiimcbmaa
open Go.ChangeShapes Go.WideShapes Go.ChangeAt Go.RowKit Go.Deep
set_option linter.unusedSimpArgs false
set_option linter.unusedVariables false
/-- What a call answers: a bool. -/
def Pb (m : Bool) (w : World) (e : Ending) (w' : World) : Prop := e = .returned (.bool m) ∧ Below w.heap.size w w'
theorem Pb.out {m : Bool} {w w' : World} {e : Ending} (h : Pb m w e w') : e = .returned (.bool m) ∧ Below w.heap.size w w' := h
/-- A list of numbers to be read, and a bool. -/
def PIb (m : List Int × Bool) (w : World) (e : Ending) (w' : World) : Prop := ∃ v, e = .returned (.tuple #[v, .bool m.2]) ∧ RdI w' w.heap.size w'.heap.size v m.1 ∧ Below w.heap.size w w'
theorem PIb.out {l : List Int} {z : Bool} {w w' : World} {e : Ending} (h : PIb (l, z) w e w') : ∃ v, e = .returned (.tuple #[v, .bool z]) ∧ RdI w' w.heap.size w'.heap.size v l ∧ Below w.heap.size w w' := h
/-- A list of numbers in memory of the call's own, and a bool. -/
def QIb (m : List Int × Bool) (w : World) (e : Ending) (w' : World) : Prop := ∃ v, e = .returned (.tuple #[v, .bool m.2]) ∧ OwI w' w.heap.size w'.heap.size v m.1 ∧ Below w.heap.size w w'
theorem QIb.out {l : List Int} {z : Bool} {w w' : World} {e : Ending} (h : QIb (l, z) w e w') : ∃ v, e = .returned (.tuple #[v, .bool z]) ∧ OwI w' w.heap.size w'.heap.size v l ∧ Below w.heap.size w w' := h
end Go.Proofs.Ytkaakomiimcbmaa
