/- slices.Index and slices.Contains at numbers, by their contracts. -/
import Derived.Test.YtkaakomiimcbmaaVo6
namespace Go.Proofs.Ytkaakomiimcbmaa
open Go.ChangeShapes Go.WideShapes Go.ChangeAt Go.RowKit Go.Deep
set_option linter.unusedSimpArgs false
set_option linter.unusedVariables false
/-- Where n stands first in l, or -1. -/
def ix (l : List Int) (n : Int) : Int := if n ∈ l then (l.idxOf n : Int) else -1
theorem ix_hit {l : List Int} {n : Int} {k : Nat} (h : k < l.length) (hk : l[k] = n) (H : ∀ j (hj : j < l.length), j < k → l[j] ≠ n) : ix l n = k := by
  have hm : n ∈ l := by rw [← hk]; exact List.getElem_mem h
  unfold ix
  rw [if_pos hm]
  have h1 : l.idxOf n < l.length := List.idxOf_lt_length_of_mem hm
  have h2 : l[l.idxOf n] = n := List.getElem_idxOf h1
  have h3 : ¬ l.idxOf n < k := fun q => H _ h1 q h2
  have h4 : ¬ k < l.idxOf n := fun q => by
    have := List.not_of_lt_findIdx (p := (· == n)) (xs := l) q
    simp [hk] at this
  omega
theorem ix_miss {l : List Int} {n : Int} (h : ¬ n ∈ l) : ix l n = -1 := by simp [ix, h]
theorem ix_bd (l : List Int) (n : Int) : -1 ≤ ix l n ∧ ix l n < l.length + 1 ∧ (0 ≤ ix l n ↔ n ∈ l) := by
  unfold ix
  split
  · rename_i h
    have := List.idxOf_lt_length_of_mem h
    refine ⟨by omega, by omega, fun _ => h, fun _ => by omega⟩
  · rename_i h
    exact ⟨by omega, by omega, fun q => by omega, fun q => absurd q h⟩
end Go.Proofs.Ytkaakomiimcbmaa
