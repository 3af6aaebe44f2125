/- FractionOf by contracts. -/
import Derived.Test.YtcmhdjoajkljfabGreatDoorIOps
namespace Go.Proofs.YtcmhdjoajkljfabGreatDoor
open Go.ChangeShapes Go.WideShapes Go.ChangeAt Go.RowKit

/-- FractionOf asks this of its numbers. -/
def frOk (n d : Int) : Bool := inB n (-1000000000000000000) 1000000000000000000 && inB d (-1000000000000000000) 1000000000000000000 && decide (d ≠ 0)
theorem frOk_bd {n d : Int} (h : frOk n d = true) : d ≠ 0 ∧ -4000000000000000000 ≤ n ∧ n ≤ 4000000000000000000 ∧ -4000000000000000000 ≤ d ∧ d ≤ 4000000000000000000 ∧ -1000000000000000000 ≤ n ∧ n ≤ 1000000000000000000 ∧ -1000000000000000000 ≤ d ∧ d ≤ 1000000000000000000 := by
  simp [frOk, inB] at h
  omega
/-- Both numbers are within the limit. -/
def inRaw (n d : Int) : Prop := -1000000000000000000 ≤ n ∧ n ≤ 1000000000000000000 ∧ -1000000000000000000 ≤ d ∧ d ≤ 1000000000000000000
end Go.Proofs.YtcmhdjoajkljfabGreatDoor
