/- areDifferentMembers and the program's ValidVoices by their contracts. -/
import Derived.Test.YtkaakomiimcbmaaDoorVo7
import Derived.Maps.Own
import Derived.Maps.OwnSet
import Derived.Maps.Views
namespace Go.Proofs.YtkaakomiimcbmaaDoor
open Go.ChangeShapes Go.WideShapes Go.ChangeAt Go.RowKit Go.Deep Go.Maps
set_option linter.unusedSimpArgs false
set_option linter.unusedVariables false
set_option maxRecDepth 100000
theorem keyI : Keyed Tryd.prog 2 := int_keyed Tryd.underlying2
theorem zeroB (w : World) : (zeroValue 4).run Tryd.prog w = .ok (.bool false) w := by kernel_rfl
/-- The call's own set holds just the numbers of l. -/
def SetIs (w : World) (b n : Nat) (l : List Int) : Prop :=
  ∃ D : DataW Unit, w.ownsMap Tryd.prog 2 (plainElem Tryd.prog 4) b n D ∧ ∀ y : Int, D.atKey (.int .i64 y) (.lit (.bool false)) = .lit (.bool (decide (y ∈ l)))
theorem bool_inv {v : Value} {z : DataW Unit × List MemPlace} (h : plainElem Tryd.prog 4 v = some z) : ∃ x, v = .bool x ∧ z.1 = .lit (.bool x) := by
  unfold plainElem at h
  rw [Tryd.underlying4] at h
  cases v <;> simp at h
  subst h
  exact ⟨_, rfl, rfl⟩
/-- The elements of l are numbers of n members, no two alike. -/
def allDiff (n : Nat) (l : List Int) : Prop := ∀ m, m < l.length → 0 ≤ l.getD m 0 ∧ l.getD m 0 < (n : Int) ∧ ¬ l.getD m 0 ∈ l.take m
noncomputable def allDiffB (n : Nat) (l : List Int) : Bool := @decide (allDiff n l) (Classical.propDecidable _)
theorem allDiffB_yes {n : Nat} {l : List Int} (h : allDiff n l) : allDiffB n l = true := by simp [allDiffB, h]
theorem allDiffB_no {n : Nat} {l : List Int} (h : ¬ allDiff n l) : allDiffB n l = false := by simp [allDiffB, h]
end Go.Proofs.YtkaakomiimcbmaaDoor
