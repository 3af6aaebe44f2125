/- FirstCircles, the specification's, by its contract. -/
import Derived.Test.YtpfkhodhkkdaeaaFc1
namespace Go.Proofs.Ytpfkhodhkkdaeaa
open Go.ChangeShapes Go.WideShapes Go.ChangeAt Go.RowKit Go.Deep
set_option linter.unusedSimpArgs false
set_option linter.unusedVariables false
noncomputable def mCirc (L : List Vc) : List (List Int) × Bool := if okLB L = true then (circs L L.length, true) else ([], false)
theorem mCirc_yes {L : List Vc} (h : okLB L = true) : mCirc L = (circs L L.length, true) := by unfold mCirc; rw [if_pos h]
theorem mCirc_no {L : List Vc} (h : okLB L = false) : mCirc L = ([], false) := by unfold mCirc; rw [if_neg (by rw [h]; decide)]
theorem okLB_of {L : List Vc} (h : okLB L = true) : okL L := by unfold okLB at h; exact @of_decide_eq_true _ (Classical.propDecidable _) h
theorem ow_own {w : World} {base : Nat} {v : Value} {l : List Int} (h : w.ownsRow base 2 1 v l.length (l.map (Value.int .i64))) (hl : l.length ≤ 1048576) : OwI w base w.heap.size v l := ow_of_own h (Nat.le_refl _) hl
theorem snoc_len (c : List Int) (a : Int) : (c ++ [a]).length = c.length + 1 := by simp
theorem snoc_map (c : List Int) (a : Int) : (c ++ [a]).map (Value.int .i64) = c.map (Value.int .i64) ++ [Value.int .i64 a] := by simp
end Go.Proofs.Ytpfkhodhkkdaeaa
