/- The product of seals with weights: the specification's loop. -/
import Derived.Test.YtjfkkmfbgmejbabSl4
namespace Go.Proofs.Ytjfkkmfbgmejbab
open Go.ChangeShapes Go.WideShapes Go.ChangeAt Go.RowKit Go.Deep
set_option linter.unusedSimpArgs false
set_option linter.unusedVariables false
/-- The product of the first k seals, each to the power of its weight. -/
def jn (S W : List Int) : Nat → Int
  | 0 => 1
  | k + 1 => jn S W k * pw (S.getD k 0) (W.getD k 0).toNat % 1000000007
theorem jn_ok (S W : List Int) (k : Nat) : sOk (jn S W k) := by
  cases k with
  | zero => exact ⟨by show (0 : Int) ≤ 1; omega, by show (1 : Int) < _; omega⟩
  | succ k => exact sOk_mod _
theorem isSl_ok {c : Int} (h : isSl c = true) : sOk c := by
  simp [isSl] at h
  exact ⟨by omega, by omega⟩
theorem wB_nat {n : Int} (h : wB n = true) : ∃ k : Nat, n = (k : Int) ∧ k ≤ 1000 ∧ n.toNat = k := by
  simp [wB] at h
  exact ⟨n.toNat, by omega, by omega, rfl⟩
end Go.Proofs.Ytjfkkmfbgmejbab
