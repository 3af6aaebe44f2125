/- Sums of ranks and ranks compared: the specification's l02Sum and l02Less by contracts. -/
import Derived.Test.YthffhllkfadejaaDoorFm2
namespace Go.Proofs.YthffhllkfadejaaDoor
open Go.ChangeShapes Go.WideShapes Go.ChangeAt Go.RowKit Go.Deep
set_option linter.unusedSimpArgs false
set_option linter.unusedVariables false
/-- The sum of the first k numbers of l. -/
def sumTo (l : List Int) : Nat → Int
  | 0 => 0
  | k + 1 => sumTo l k + l.getD k 0
theorem sumTo_bd {l : List Int} (h : ∀ n ∈ l, -2000000 ≤ n ∧ n ≤ 2000000) : ∀ k, k ≤ l.length → -(2000000 * (k : Int)) ≤ sumTo l k ∧ sumTo l k ≤ 2000000 * (k : Int) := by
  intro k
  induction k with
  | zero => intro _; simp [sumTo]
  | succ k ih =>
    intro hk
    have h1 := ih (by omega)
    have h2 : l.getD k 0 ∈ l := by rw [getD_of (by omega)]; exact List.getElem_mem _
    have h3 := h _ h2
    simp only [sumTo]
    omega
/-- Lists of numbers compared. -/
def lessL : List Int → List Int → Int
  | [], [] => 0
  | [], _ :: _ => -1
  | _ :: _, [] => 1
  | x :: a, y :: b => if x < y then -1 else if y < x then 1 else lessL a b
theorem lessL_step {a b : List Int} {k : Nat} (h1 : k < a.length) (h2 : k < b.length) : lessL (a.drop k) (b.drop k) = if a.getD k 0 < b.getD k 0 then -1 else if b.getD k 0 < a.getD k 0 then 1 else lessL (a.drop (k + 1)) (b.drop (k + 1)) := by
  rw [List.drop_eq_getElem_cons h1, List.drop_eq_getElem_cons h2, lessL, getD_of h1, getD_of h2]
theorem lessL_done {a b : List Int} {k : Nat} (h1 : k ≤ a.length) (h2 : k ≤ b.length) (h3 : ¬ (k < a.length ∧ k < b.length)) : lessL (a.drop k) (b.drop k) = if a.length < b.length then -1 else if b.length < a.length then 1 else 0 := by
  by_cases ha : k < a.length
  · have hb : k = b.length := by omega
    rw [List.drop_eq_getElem_cons ha, List.drop_of_length_le (by omega : b.length ≤ k), lessL, if_neg (by omega), if_pos (by omega)]
  · by_cases hb : k < b.length
    · rw [List.drop_eq_getElem_cons hb, List.drop_of_length_le (by omega : a.length ≤ k), lessL, if_pos (by omega)]
    · rw [List.drop_of_length_le (by omega : a.length ≤ k), List.drop_of_length_le (by omega : b.length ≤ k), lessL, if_neg (by omega), if_neg (by omega)]
end Go.Proofs.YthffhllkfadejaaDoor
