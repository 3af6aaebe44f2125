/- What the laws of the later chapters draw from bytes. -/
import Derived.Test.YtllfopbpchjhpaaDoorFsa
import Derived.Lib.Hide
import Derived.Deep.OwnRows
import Derived.Deep.LoopGhost
namespace Go.Proofs.YtllfopbpchjhpaaDoor
open Go.ChangeShapes Go.WideShapes Go.ChangeAt Go.RowKit Go.Deep
set_option linter.unusedSimpArgs false
set_option linter.unusedVariables false
theorem r8long (a0 a1 : Option Addr) (len0 cap0 len1 cap1 : Nat) (w : World) :
    Calls Tryd.prog 4 #[.slice a0 len0 cap0, .slice a1 len1 cap1] w fun e w' => e = .returned (.bool (decide (48 < len0) || decide (48 < len1))) ∧ w = w' := by
  by_cases h : 48 < len0
  · have h' : (48 : Int) < (len0 : Int) := by omega
    rw [decide_eq_true h]
    go_enter Tryd.func4, Tryd.ntmps4
    go_wp2
    go_ret
    exact ⟨rfl, rfl⟩
  · have h' : ¬ (48 : Int) < (len0 : Int) := by omega
    rw [decide_eq_false h]
    by_cases h1 : 48 < len1
    · have h1' : (48 : Int) < (len1 : Int) := by omega
      rw [decide_eq_true h1]
      go_enter Tryd.func4, Tryd.ntmps4
      go_wp2
      go_ret
      exact ⟨rfl, rfl⟩
    · have h1' : ¬ (48 : Int) < (len1 : Int) := by omega
      rw [decide_eq_false h1]
      go_enter Tryd.func4, Tryd.ntmps4
      go_wp2
      go_ret
      exact ⟨rfl, rfl⟩
/-- A number below n, or 0. -/
def At8 (n : Int) (w : World) (e : Ending) (w' : World) : Prop := ∃ r : Int, e = .returned (.int .i64 r) ∧ 0 ≤ r ∧ (1 < n → r < n) ∧ (n ≤ 1 → r = 0) ∧ w = w'
end Go.Proofs.YtllfopbpchjhpaaDoor
