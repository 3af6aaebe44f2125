/- The specification's rounds. -/
import Derived.Test.YtllfopbpchjhpaaDoorGsa
import Derived.Test.YtllfopbpchjhpaaDoorRna
namespace Go.Proofs.YtllfopbpchjhpaaDoor
open Go.ChangeShapes Go.WideShapes Go.ChangeAt Go.RowKit Go.Deep Go.Maps
set_option linter.unusedSimpArgs false
set_option linter.unusedVariables false
theorem acc_small {n : Nat} {L : List (List Int)} (hn : n ≤ 10) (k : Nat) : accB n L k < 1024 := by
  cases k with
  | zero => show 0 < 1024; decide
  | succ k => exact Nat.lt_of_lt_of_le (defB_lt n L _) (pow_10 hn)
theorem att_small {n : Nat} {L : List (List Int)} (hn : n ≤ 10) (s : Nat) : attB n L s < 1024 := Nat.lt_of_lt_of_le (attB_lt n L s) (pow_10 hn)
theorem those_small {j : Nat} (hj : j ≤ 10) (p : Nat → Bool) : those j p < 1024 := Nat.lt_of_lt_of_le (those_lt j p) (pow_10 hj)
theorem or_1024 {a b : Nat} (ha : a < 1024) (hb : b < 1024) : a ||| b < 1024 := or_lt (n := 10) ha hb
theorem or_step (a j : Nat) (p : Nat → Bool) : a ||| those (j + 1) p = if p j = true then (a ||| those j p) ||| 2 ^ j else a ||| those j p := by
  show a ||| (if p j = true then those j p ||| 2 ^ j else those j p) = _
  split
  · rw [Nat.or_assoc]
  · rfl
/-- The decisions when those below j have been accepted; and when those below j have been rejected. -/
def rowA (n : Nat) (L : List (List Int)) (k j : Nat) : Nat → Value := fun i => .int .i64 (if i < j then midD n L k i else decD n L k i)
def rowR (n : Nat) (L : List (List Int)) (k j : Nat) : Nat → Value := fun i => .int .i64 (if i < j then decD n L (k + 1) i else midD n L k i)
end Go.Proofs.YtllfopbpchjhpaaDoor
